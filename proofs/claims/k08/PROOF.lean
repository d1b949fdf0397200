import PyProof.Rows.All
import Wide.All
import OpenK.AllK
import Wide.FinOn
import HandS.ForMost
import HandS.Wide
import HandS.WideBits
import HandS.IsInst
import HandS.Style
import HandS.Deep
import HandS.RaiseMore
import HandS.Conv
import HandS.Flow
import HandS.SortRule
import PyProof.ReprRoads
import PyProof.Rows.NestShow
import PySem.Challenge.RW_logtrees_k08_sizes_with_a_depth
set_option Elab.async false
set_option linter.all false
set_option maxRecDepth 100000
set_option maxHeartbeats 4000000
namespace LT
/-- the greatest power of two less than m (m from 2) -/
def gp (m : Nat) : Nat := 2 ^ Nat.log2 (m - 1)
theorem gp_pos (m : Nat) : 0 < gp m := Nat.pow_pos (by decide)
theorem gp_lt {m : Nat} (h : 2 ≤ m) : gp m < m := by
  have := Nat.log2_self_le (n := m - 1) (by omega)
  unfold gp; omega
theorem gp_ge {m : Nat} (h : 2 ≤ m) : m ≤ 2 * gp m := by
  have := Nat.lt_log2_self (n := m - 1)
  unfold gp; rw [Nat.pow_succ] at this; omega
theorem pow_eq_of {i j : Nat} {m : Nat} (h1 : 2 ^ i < m) (h2 : m ≤ 2 * 2 ^ i) (h3 : 2 ^ j < m) (h4 : m ≤ 2 * 2 ^ j) : i = j := by
  have a : 2 ^ i < 2 ^ (j + 1) := by rw [Nat.pow_succ]; omega
  have b : 2 ^ j < 2 ^ (i + 1) := by rw [Nat.pow_succ]; omega
  have a' := (Nat.pow_lt_pow_iff_right (by decide : 1 < 2)).mp a
  have b' := (Nat.pow_lt_pow_iff_right (by decide : 1 < 2)).mp b
  omega
theorem gp_eq {i m : Nat} (h1 : 2 ^ i < m) (h2 : m ≤ 2 * 2 ^ i) : gp m = 2 ^ i := by
  have h : 2 ≤ m := by have := Nat.pow_pos (a := 2) (n := i) (by decide); omega
  have := pow_eq_of (gp_lt h) (gp_ge h) h1 h2
  unfold gp; rw [this]
theorem gp_pow (i : Nat) : gp (2 ^ (i + 1)) = 2 ^ i := gp_eq (by rw [Nat.pow_succ]; have := Nat.pow_pos (a := 2) (n := i) (by decide); omega) (by rw [Nat.pow_succ]; omega)

/-- siblings from the root's half down to the leaf's: nodes as (begin, length-end) pairs -/
def sib (b m e : Nat) : List (Nat × Nat) :=
  if h : m ≤ 1 then [] else
    if e < b + gp m then (b + gp m, b + m) :: sib b (gp m) e
    else (b, b + gp m) :: sib (b + gp m) (m - gp m) e
termination_by m
decreasing_by
  · exact gp_lt (by omega)
  · have := gp_pos m; omega
theorem sib_one {b m e : Nat} (h : m ≤ 1) : sib b m e = [] := by rw [sib]; simp [h]
theorem sib_low {b m e : Nat} (h : 2 ≤ m) (k : e < b + gp m) : sib b m e = (b + gp m, b + m) :: sib b (gp m) e := by
  rw [sib]; rw [dif_neg (by omega), if_pos k]
theorem sib_high {b m e : Nat} (h : 2 ≤ m) (k : ¬ e < b + gp m) : sib b m e = (b, b + gp m) :: sib (b + gp m) (m - gp m) e := by
  rw [sib]; rw [dif_neg (by omega), if_neg k]

/-! ### joining up again -/
def join (x y : Nat × Nat) : Nat × Nat := (min x.1 y.1, max x.2 y.2)
/-- the halves of a node -/
def halv (x : Nat × Nat) : (Nat × Nat) × (Nat × Nat) := ((x.1, x.1 + gp (x.2 - x.1)), (x.1 + gp (x.2 - x.1), x.2))
def ok1 (x y : Nat × Nat) : Prop := (join x y).1 + 2 ≤ (join x y).2 ∧ (halv (join x y) = (x, y) ∨ halv (join x y) = (y, x))
def oks : Nat × Nat → List (Nat × Nat) → Prop
  | _, [] => True
  | x, y :: r => ok1 x y ∧ oks (join x y) r
def top : Nat × Nat → List (Nat × Nat) → Nat × Nat
  | x, [] => x
  | x, y :: r => top (join x y) r
theorem oks_append : ∀ (x : Nat × Nat) (l r : List (Nat × Nat)), oks x l → oks (top x l) r → oks x (l ++ r)
  | _, [], _, _, h => h
  | x, y :: l, r, h1, h2 => ⟨h1.1, oks_append (join x y) l r h1.2 h2⟩
theorem top_append : ∀ (x : Nat × Nat) (l r : List (Nat × Nat)), top x (l ++ r) = top (top x l) r
  | _, [], _ => rfl
  | x, y :: l, r => top_append (join x y) l r
theorem sib_up : ∀ (m b e : Nat), b ≤ e → e < b + m → oks (e, e + 1) (sib b m e).reverse ∧ top (e, e + 1) (sib b m e).reverse = (b, b + m) := by
  intro m
  induction m using Nat.strongRecOn with
  | ind m ih =>
    intro b e h1 h2
    by_cases hm : m ≤ 1
    · have : m = 1 := by omega
      subst this
      rw [sib_one (by omega)]
      have : e = b := by omega
      subst this
      exact ⟨True.intro, rfl⟩
    · have g1 := gp_lt (m := m) (by omega)
      have g2 := gp_pos m
      by_cases k : e < b + gp m
      · rw [sib_low (by omega) k, List.reverse_cons]
        obtain ⟨p, q⟩ := ih (gp m) g1 b e h1 k
        have j : join (b, b + gp m) (b + gp m, b + m) = (b, b + m) := by
          unfold join; simp only []; rw [Nat.min_eq_left (by omega), Nat.max_eq_right (by omega)]
        refine ⟨oks_append _ _ _ p ?_, ?_⟩
        · rw [q]
          refine ⟨⟨?_, .inl ?_⟩, True.intro⟩
          · rw [j]; simp only []; omega
          · rw [j]; unfold halv; simp only []; rw [Nat.add_sub_cancel_left]
        · rw [top_append, q]; exact j
      · rw [sib_high (by omega) k, List.reverse_cons]
        obtain ⟨p, q⟩ := ih (m - gp m) (by omega) (b + gp m) e (by omega) (by omega)
        have e2 : b + gp m + (m - gp m) = b + m := by omega
        rw [e2] at q
        have j : join (b + gp m, b + m) (b, b + gp m) = (b, b + m) := by
          unfold join; simp only []; rw [Nat.min_eq_right (by omega), Nat.max_eq_left (by omega)]
        refine ⟨oks_append _ _ _ p ?_, ?_⟩
        · rw [q]
          refine ⟨⟨?_, .inr ?_⟩, True.intro⟩
          · rw [j]; simp only []; omega
          · rw [j]; unfold halv; simp only []; rw [Nat.add_sub_cancel_left]
        · rw [top_append, q]; exact j
theorem sib_len_pow (i : Nat) : ∀ (b e : Nat), b ≤ e → e < b + 2 ^ i → (sib b (2 ^ i) e).length = i := by
  induction i with
  | zero => intro b e h1 h2; rw [sib_one (by simp)]; rfl
  | succ i ih =>
    intro b e h1 h2
    have h3 : 2 ≤ 2 ^ (i + 1) := by rw [Nat.pow_succ]; have := Nat.pow_pos (a := 2) (n := i) (by decide); omega
    have g := gp_pow i
    have e2 : 2 ^ (i + 1) - 2 ^ i = 2 ^ i := by rw [Nat.pow_succ]; omega
    by_cases k : e < b + gp (2 ^ (i + 1))
    · rw [sib_low h3 k, List.length_cons, g, ih b e h1 (by omega)]
    · rw [sib_high h3 k, List.length_cons, g, e2, ih (b + 2 ^ i) e (by omega) (by rw [Nat.pow_succ] at h2; omega)]
/-! ### the peaks by digits: (begin, height) -/
def pk : Nat → Nat → Nat → List (Nat × Nat)
  | 0, _, _ => []
  | i + 1, n, b => if n.testBit i then (b, i) :: pk i n (b + 2 ^ i) else pk i n b
theorem mod_succ (n i : Nat) : n % 2 ^ (i + 1) = (if n.testBit i then 2 ^ i else 0) + n % 2 ^ i := by
  rw [Nat.mod_pow_succ, Nat.testBit_eq_decide_div_mod_eq, Nat.add_comm]
  have h : n / 2 ^ i % 2 = 0 ∨ n / 2 ^ i % 2 = 1 := by omega
  rcases h with h | h <;> rw [h] <;> simp
theorem pk_nil : ∀ (i n b : Nat), n % 2 ^ i = 0 → pk i n b = []
  | 0, _, _, _ => rfl
  | i + 1, n, b, h => by
    rw [mod_succ] at h
    have p := Nat.pow_pos (a := 2) (n := i) (by decide)
    unfold pk
    cases t : n.testBit i with
    | true => rw [t] at h; simp at h
    | false => rw [t] at h; simp at h; simp; exact pk_nil i n b h
theorem pk_ne : ∀ (i n b : Nat), n % 2 ^ i ≠ 0 → pk i n b ≠ []
  | 0, _, _, h => by simp [Nat.mod_one] at h
  | i + 1, n, b, h => by
    rw [mod_succ] at h
    unfold pk
    cases t : n.testBit i with
    | true => simp
    | false => rw [t] at h; simp at h; simp; exact pk_ne i n b (by omega)
theorem pk_begin : ∀ (i n b : Nat) (x : Nat × Nat), x ∈ pk i n b → b ≤ x.1 ∧ x.2 < i
  | 0, _, _, _, h => by simp [pk] at h
  | i + 1, n, b, x, h => by
    unfold pk at h
    cases t : n.testBit i with
    | true =>
      rw [t] at h; simp at h
      rcases h with h | h
      · subst h; exact ⟨Nat.le_refl _, Nat.lt_succ_self _⟩
      · have := pk_begin i n _ x h; have p := Nat.pow_pos (a := 2) (n := i) (by decide); omega
    | false =>
      rw [t] at h; simp at h
      have := pk_begin i n _ x h; omega
/-- what the law says of the levels: s the place of the first row, of t rows in all -/
def lev (t : Nat) : Nat → List (Nat × Nat) → List (Nat × Nat × Nat)
  | _, [] => []
  | s, x :: r => (x.1, x.1 + 2 ^ x.2, x.2 + min (s + 1) (t - 1)) :: lev t (s + 1) r
def due (e : Nat) (l : List (Nat × Nat × Nat)) : List Nat := (l.filter fun x => decide (x.1 ≤ e) && decide (e < x.2.1)).map fun x => x.2.2
theorem due_none (t e : Nat) : ∀ (l : List (Nat × Nat)) (s : Nat), (∀ x ∈ l, e < x.1) → due e (lev t s l) = []
  | [], _, _ => rfl
  | x :: r, s, h => by
    have h1 := h x (List.mem_cons_self)
    have ih := due_none t e r (s + 1) fun y hy => h y (List.mem_cons_of_mem _ hy)
    show List.map _ (List.filter _ ((x.1, x.1 + 2 ^ x.2, x.2 + min (s + 1) (t - 1)) :: lev t (s + 1) r)) = []
    rw [List.filter_cons, if_neg (by simp; omega)]
    exact ih
theorem due_is (n e : Nat) : ∀ (i b s : Nat), b ≤ e → e < b + n % 2 ^ i → due e (lev (s + (pk i n b).length) s (pk i n b)) = [(sib b (n % 2 ^ i) e).length + min s (s + (pk i n b).length - 1)] := by
  intro i
  induction i with
  | zero => intro b s h1 h2; simp [Nat.mod_one] at h2; omega
  | succ i ih =>
    intro b s h1 h2
    have p := Nat.pow_pos (a := 2) (n := i) (by decide)
    have ml := Nat.mod_lt n p
    cases t : n.testBit i with
    | false =>
      have e1 : n % 2 ^ (i + 1) = n % 2 ^ i := by rw [mod_succ, t]; simp
      have e2 : pk (i + 1) n b = pk i n b := by show (if n.testBit i = true then _ else _) = _; rw [t]; simp
      rw [e1] at h2
      rw [e1, e2]; exact ih b s h1 h2
    | true =>
      have e1 : n % 2 ^ (i + 1) = 2 ^ i + n % 2 ^ i := by rw [mod_succ, t]; simp
      have e2 : pk (i + 1) n b = (b, i) :: pk i n (b + 2 ^ i) := by show (if n.testBit i = true then _ else _) = _; rw [t]; simp
      rw [e1] at h2
      rw [e1, e2, List.length_cons]
      by_cases r0 : n % 2 ^ i = 0
      · rw [pk_nil i n _ r0, r0]
        rw [r0] at h2
        rw [Nat.add_zero] at h2
        rw [Nat.add_zero (2 ^ i), sib_len_pow i b e h1 h2]
        show List.map _ (List.filter _ [(b, b + 2 ^ i, i + min (s + 1) (s + (0 + 1) - 1))]) = _
        rw [List.filter_cons, if_pos (by simp; omega)]
        simp
      · have hne : 1 ≤ (pk i n (b + 2 ^ i)).length := by
          have := pk_ne i n (b + 2 ^ i) r0
          cases hh : pk i n (b + 2 ^ i) with
          | nil => exact absurd hh this
          | cons _ _ => rw [List.length_cons]; omega
        have g : gp (2 ^ i + n % 2 ^ i) = 2 ^ i := gp_eq (by omega) (by omega)
        by_cases k : e < b + 2 ^ i
        · rw [sib_low (by omega) (by rw [g]; exact k), g, List.length_cons, sib_len_pow i b e h1 k]
          have d := due_none (s + ((pk i n (b + 2 ^ i)).length + 1)) e (pk i n (b + 2 ^ i)) (s + 1) fun x hx => by have := pk_begin _ _ _ x hx; omega
          show List.map _ (List.filter _ ((b, b + 2 ^ i, i + min (s + 1) (s + ((pk i n (b + 2 ^ i)).length + 1) - 1)) :: lev (s + ((pk i n (b + 2 ^ i)).length + 1)) (s + 1) (pk i n (b + 2 ^ i)))) = _
          rw [List.filter_cons, if_pos (by simp; omega), List.map_cons]
          have d' : List.map (fun x => x.2.2) (List.filter (fun x => decide (x.1 ≤ e) && decide (e < x.2.1)) (lev (s + ((pk i n (b + 2 ^ i)).length + 1)) (s + 1) (pk i n (b + 2 ^ i)))) = [] := d
          rw [d']
          simp
          omega
        · rw [sib_high (by omega) (by rw [g]; exact k), g, List.length_cons, Nat.add_sub_cancel_left]
          have q := ih (b + 2 ^ i) (s + 1) (by omega) (by omega)
          have e3 : s + 1 + (pk i n (b + 2 ^ i)).length = s + ((pk i n (b + 2 ^ i)).length + 1) := by omega
          rw [e3] at q
          show List.map _ (List.filter _ ((b, b + 2 ^ i, i + min (s + 1) (s + ((pk i n (b + 2 ^ i)).length + 1) - 1)) :: lev (s + ((pk i n (b + 2 ^ i)).length + 1)) (s + 1) (pk i n (b + 2 ^ i)))) = _
          rw [List.filter_cons, if_neg (by simp; omega)]
          refine Eq.trans q ?_
          congr 1
          omega
/-! ### which pairs are nodes -/
/-- the bits of m - 1 -/
def lb (m : Nat) : Nat := if m ≤ 1 then 0 else Nat.log2 (m - 1) + 1
theorem lb_le {x i : Nat} (h : x ≤ 2 ^ i) : lb x ≤ i := by
  unfold lb
  by_cases k : x ≤ 1
  · rw [if_pos k]; omega
  · rw [if_neg k]
    have h1 := Nat.log2_self_le (n := x - 1) (by omega)
    have h2 : 2 ^ Nat.log2 (x - 1) < 2 ^ i := by omega
    exact (Nat.pow_lt_pow_iff_right (by decide : 1 < 2)).mp h2
theorem lb_ge (x : Nat) : x ≤ 2 ^ lb x := by
  unfold lb
  by_cases k : x ≤ 1
  · rw [if_pos k]; omega
  · rw [if_neg k]
    have := Nat.lt_log2_self (n := x - 1)
    omega
theorem lb_pow (i : Nat) : lb (2 ^ i) = i := by
  have h1 := lb_le (Nat.le_refl (2 ^ i))
  have h2 := (Nat.pow_le_pow_iff_right (by decide : 1 < 2)).mp (lb_ge (2 ^ i))
  omega
theorem lb_gp {m : Nat} (h : 2 ≤ m) : 2 ^ lb m = 2 * gp m := by
  unfold lb gp; rw [if_neg (by omega), Nat.pow_succ]; omega
def tree (n b m : Nat) : Prop := 2 ^ lb m ∣ b ∧ (m = 2 ^ lb m ∨ b + m = n)
theorem tree_root (n : Nat) : tree n 0 n := ⟨Nat.dvd_zero _, .inr (Nat.zero_add _)⟩
theorem tree_low {n b m : Nat} (h : 2 ≤ m) (t : tree n b m) : tree n b (gp m) := by
  obtain ⟨d, _⟩ := t
  rw [lb_gp h] at d
  have e : 2 ^ lb (gp m) = gp m := by unfold gp; rw [lb_pow]
  exact ⟨by rw [e]; exact Nat.dvd_trans (Nat.dvd_mul_left _ _) d, .inl e.symm⟩
theorem tree_high {n b m : Nat} (h : 2 ≤ m) (t : tree n b m) : tree n (b + gp m) (m - gp m) := by
  obtain ⟨d, k⟩ := t
  rw [lb_gp h] at d k
  have g1 := gp_lt h
  have g2 := gp_ge h
  have dg : 2 ^ lb (m - gp m) ∣ gp m := by
    have : lb (m - gp m) ≤ Nat.log2 (m - 1) := lb_le (by unfold gp at g1 g2 ⊢; omega)
    exact Nat.pow_dvd_pow 2 this
  refine ⟨Nat.dvd_add (Nat.dvd_trans dg (Nat.dvd_trans (Nat.dvd_mul_left _ _) d)) dg, ?_⟩
  rcases k with k | k
  · left
    have e : m - gp m = gp m := by omega
    rw [e]
    unfold gp; rw [lb_pow]
  · right; omega
theorem sib_len_le : ∀ (m b e : Nat), b ≤ e → e < b + m → (sib b m e).length ≤ lb m := by
  intro m
  induction m using Nat.strongRecOn with
  | ind m ih =>
    intro b e h1 h2
    by_cases hm : m ≤ 1
    · rw [sib_one hm]; exact Nat.zero_le _
    · have g1 := gp_lt (m := m) (by omega)
      have g2 := gp_ge (m := m) (by omega)
      have g3 := gp_pos m
      have e1 : lb m = Nat.log2 (m - 1) + 1 := by unfold lb; rw [if_neg hm]
      by_cases k : e < b + gp m
      · rw [sib_low (by omega) k, List.length_cons]
        have := ih (gp m) g1 b e h1 k
        have e2 : lb (gp m) = Nat.log2 (m - 1) := by unfold gp; rw [lb_pow]
        omega
      · rw [sib_high (by omega) k, List.length_cons]
        have := ih (m - gp m) (by omega) (b + gp m) e (by omega) (by omega)
        have e2 : lb (m - gp m) ≤ Nat.log2 (m - 1) := lb_le (by unfold gp at g1 g2 ⊢; omega)
        omega
end LT
namespace LT
open PySem PySem.Spec PyProof.Rows L2
def topS (i : Nat) : Stmt := PySem.Challenge.pw_logtrees_k08_sizes_with_a_depth.main.body.getD i (.Pass ⟨0, 0, 0, 0⟩)
abbrev sIsWhole : Stmt := topS 8
theorem scIsWhole : FnScope ["value"] ["value"] (defScope sIsWhole) := ⟨rfl, rfl, rfl, by decide +kernel, rfl, by decide +kernel, by decide +kernel⟩
abbrev sIsBetween : Stmt := topS 9
theorem scIsBetween : FnScope ["value", "low", "high"] ["value", "low", "high"] (defScope sIsBetween) := ⟨rfl, rfl, rfl, by decide +kernel, rfl, by decide +kernel, by decide +kernel⟩
abbrev sIsTreeNode : Stmt := topS 10
theorem scIsTreeNode : FnScope ["size", "value", "begin", "end", "room"] ["size", "value"] (defScope sIsTreeNode) := ⟨rfl, rfl, rfl, by decide +kernel, rfl, by decide +kernel, by decide +kernel⟩
abbrev sCheckSize : Stmt := topS 11
theorem scCheckSize : FnScope ["size"] ["size"] (defScope sCheckSize) := ⟨rfl, rfl, rfl, by decide +kernel, rfl, by decide +kernel, by decide +kernel⟩
abbrev sCheckEntry : Stmt := topS 12
theorem scCheckEntry : FnScope ["size", "entry"] ["size", "entry"] (defScope sCheckEntry) := ⟨rfl, rfl, rfl, by decide +kernel, rfl, by decide +kernel, by decide +kernel⟩
abbrev sCheckNode : Stmt := topS 13
theorem scCheckNode : FnScope ["size", "node"] ["size", "node"] (defScope sCheckNode) := ⟨rfl, rfl, rfl, by decide +kernel, rfl, by decide +kernel, by decide +kernel⟩
abbrev sCheckNumber : Stmt := topS 14
theorem scCheckNumber : FnScope ["number"] ["number"] (defScope sCheckNumber) := ⟨rfl, rfl, rfl, by decide +kernel, rfl, by decide +kernel, by decide +kernel⟩
abbrev sPowerWithin : Stmt := topS 16
theorem scPowerWithin : FnScope ["number"] ["number"] (defScope sPowerWithin) := ⟨rfl, rfl, rfl, by decide +kernel, rfl, by decide +kernel, by decide +kernel⟩
abbrev sHalves : Stmt := topS 17
theorem scHalves : FnScope ["size", "node", "begin", "end", "middle"] ["size", "node"] (defScope sHalves) := ⟨rfl, rfl, rfl, by decide +kernel, rfl, by decide +kernel, by decide +kernel⟩
abbrev sDepth : Stmt := topS 19
theorem scDepth : FnScope ["size", "entry"] ["size", "entry"] (defScope sDepth) := ⟨rfl, rfl, rfl, by decide +kernel, rfl, by decide +kernel, by decide +kernel⟩
abbrev sPath : Stmt := topS 20
theorem scPath : FnScope ["size", "entry", "siblings", "node", "low", "high"] ["size", "entry"] (defScope sPath) := ⟨rfl, rfl, rfl, by decide +kernel, rfl, by decide +kernel, by decide +kernel⟩
abbrev sNextEnd : Stmt := topS 21
theorem scNextEnd : FnScope ["entry", "end", "room"] ["entry", "end"] (defScope sNextEnd) := ⟨rfl, rfl, rfl, by decide +kernel, rfl, by decide +kernel, by decide +kernel⟩
abbrev sSizesWith : Stmt := topS 22
theorem scSizesWith : FnScope ["entry", "number", "most", "first", "last", "deep"] ["entry", "number", "most"] (defScope sSizesWith) := ⟨rfl, rfl, rfl, by decide +kernel, rfl, by decide +kernel, by decide +kernel⟩
abbrev sLawBag : Stmt := topS 24
theorem scLawBag : FnScope ["cell"] ["cell"] (defScope sLawBag) := ⟨rfl, rfl, rfl, by decide +kernel, rfl, by decide +kernel, by decide +kernel⟩
abbrev sLawPick : Stmt := topS 25
theorem scLawPick : FnScope ["bag", "many", "told", "seed", "turn", "first", "second", "drawn"] ["bag", "many"] (defScope sLawPick) := ⟨rfl, rfl, rfl, by decide +kernel, rfl, by decide +kernel, by decide +kernel⟩
abbrev sLawPeaks : Stmt := topS 26
theorem scLawPeaks : FnScope ["size", "found", "begin", "bit"] ["size"] (defScope sLawPeaks) := ⟨rfl, rfl, rfl, by decide +kernel, rfl, by decide +kernel, by decide +kernel⟩
abbrev sLawLevels : Stmt := topS 27
theorem scLawLevels : FnScope ["size", "told", "found", "spot", "begin", "end", "height", "bit"] ["size"] (defScope sLawLevels) := ⟨rfl, rfl, rfl, by decide +kernel, rfl, by decide +kernel, by decide +kernel⟩
abbrev sLawDepth : Stmt := topS 28
theorem scLawDepth : FnScope ["size", "entry", "begin", "end", "number"] ["size", "entry"] (defScope sLawDepth) := ⟨rfl, rfl, rfl, by decide +kernel, rfl, by decide +kernel, by decide +kernel⟩
abbrev sLawSmallRight : Stmt := topS 29
theorem scLawSmallRight : FnScope ["bag", "entry", "most", "number", "found", "size", "told"] ["bag"] (defScope sLawSmallRight) := ⟨rfl, rfl, rfl, by decide +kernel, rfl, by decide +kernel, by decide +kernel⟩
abbrev sLawGreatRight : Stmt := topS 30
theorem scLawGreatRight : FnScope ["bag", "entry", "sizes", "number", "most", "told", "ahead", "first", "last", "size", "is_told", "most_there", "due", "turn", "stretch"] ["bag"] (defScope sLawGreatRight) := ⟨rfl, rfl, rfl, by decide +kernel, rfl, by decide +kernel, by decide +kernel⟩
abbrev sLaw : Stmt := topS 31
theorem scLaw : FnScope ["script", "cell", "bag", "told", "number"] ["script"] (defScope sLaw) := ⟨rfl, rfl, rfl, by decide +kernel, rfl, by decide +kernel, by decide +kernel⟩
/-- a def as it stands behind the top -/
structure At (K : PySem.W.Frag) (mg : Str → Option Value) (x : Str) (f : Addr) (fd : FuncData) (ps : List Str) : Prop where
  m : mg x = some (.ref f)
  kp : PySem.W.keepIn K (.ref f) = true
  b : Binds K fd ps []
theorem units1 {k : Nat} {A : Around} (r : Room k A) : A.units + 65 < cLine := by have := r.un; omega
/-- all but b as it was -/
def But (b : Addr) (H H' : Hp) : Prop := ∀ a o, a ≠ b → H a = some o → H' a = some o
theorem But.refl (b : Addr) (H : Hp) : But b H H := fun _ _ _ h => h
theorem But.trans {b : Addr} {H H1 H2 : Hp} (x : But b H H1) (y : But b H1 H2) : But b H H2 := fun a o n h => y a o n (x a o n h)
theorem But.of {b : Addr} {H H1 : Hp} (x : Same H H1) : But b H H1 := fun a o _ h => x a o h
theorem same_upd {H : Hp} {p : Addr} {o : HO} (h : H p = none) : Same H (upd H p o) := fun b x e => by
  rw [upd_ne (ne_of_none e h)]
  exact e
def BagAt (H : Hp) (b : Addr) : Prop := ∃ x y z : Int, H b = some (.lst [.int x, .int y, .int z])
theorem BagAt.same {H H' : Hp} {b : Addr} (h : BagAt H b) (s : Same H H') : BagAt H' b := by
  obtain ⟨x, y, z, e⟩ := h
  exact ⟨x, y, z, s _ _ e⟩
/-- a pair of ints -/
def Nd (H : Hp) (v : V) (x : Nat × Nat) : Prop := ∃ p, v = .ref p ∧ H p = some (.tup [.int x.1, .int x.2])
theorem Nd.same {H H' : Hp} {v : V} {x : Nat × Nat} (h : Nd H v x) (s : Same H H') : Nd H' v x := by
  obtain ⟨p, e, q⟩ := h
  exact ⟨p, e, s _ _ q⟩
theorem Nd.dp {K : PySem.W.Frag} {H : Hp} {v : V} {x : Nat × Nat} (h : Nd H v x) : Dp K H v (.tuple [.int x.1, .int x.2]) := by
  obtain ⟨p, rfl, q⟩ := h
  exact .tup (SqT.of q) (.cons (.int _) (.cons (.int _) .nil))
theorem nd_shaped (a b : Int) : SeqAt.shaped (.tuple [.int a, .int b]) = true := by
  show (PyData.canLay0 _ && decide (PyData.depth _ ≤ 64)) = true
  simp [PyData.canLay0, PyData.canLayAll0, PyData.depth, PyData.depthAll]
theorem nd_eqv (a b c d : Int) : PyData.eqv (.tuple [.int a, .int b]) (.tuple [.int c, .int d]) = (decide (a = c) && decide (b = d)) := by
  have e : PyData.eqv (.tuple [.int a, .int b]) (.tuple [.int c, .int d]) = ((a == c) && ((b == d) && true)) := by simp only [PyData.eqv, PyData.eqvAll]
  rw [e, Bool.and_true]
  by_cases h1 : a = c <;> by_cases h2 : b = d <;> simp [h1, h2]
/-- lists of values and what they stand for -/
inductive All2 {α : Type} (R : V → α → Prop) : List V → List α → Prop
  | nil : All2 R [] []
  | cons {v : V} {x : α} {vs : List V} {xs : List α} : R v x → All2 R vs xs → All2 R (v :: vs) (x :: xs)
section
variable {α : Type} {R R' : V → α → Prop}
theorem All2.mono (f : ∀ v x, R v x → R' v x) : ∀ {vs : List V} {xs : List α}, All2 R vs xs → All2 R' vs xs
  | _, _, .nil => .nil
  | _, _, .cons h t => .cons (f _ _ h) (All2.mono f t)
theorem All2.len : ∀ {vs : List V} {xs : List α}, All2 R vs xs → vs.length = xs.length
  | _, _, .nil => rfl
  | _, _, .cons _ t => by rw [List.length_cons, List.length_cons, All2.len t]
theorem All2.app : ∀ {vs : List V} {xs : List α} {us : List V} {ys : List α}, All2 R vs xs → All2 R us ys → All2 R (vs ++ us) (xs ++ ys)
  | _, _, _, _, .nil, h => h
  | _, _, _, _, .cons h t, k => .cons h (All2.app t k)
theorem All2.rev : ∀ {vs : List V} {xs : List α}, All2 R vs xs → All2 R vs.reverse xs.reverse
  | _, _, .nil => .nil
  | _, _, .cons h t => by
    rw [List.reverse_cons, List.reverse_cons]
    exact All2.app (All2.rev t) (.cons h .nil)
theorem All2.nth : ∀ {vs : List V} {xs : List α} {i : Nat} {v : V}, All2 R vs xs → vs[i]? = some v → ∃ x, xs[i]? = some x ∧ R v x
  | _, _, _, _, .nil, h => by simp at h
  | _, _, 0, _, .cons h t, e => by
    have := Option.some.inj e
    subst this
    exact ⟨_, rfl, h⟩
  | _, _, i + 1, _, .cons h t, e => by
    rw [List.getElem?_cons_succ] at e ⊢
    exact All2.nth t e
theorem All2.nth2 : ∀ {vs : List V} {xs : List α} {i : Nat} {x : α}, All2 R vs xs → xs[i]? = some x → ∃ v, vs[i]? = some v ∧ R v x
  | _, _, _, _, .nil, h => by simp at h
  | _, _, 0, _, .cons h t, e => by
    have := Option.some.inj e
    subst this
    exact ⟨_, rfl, h⟩
  | _, _, i + 1, _, .cons h t, e => by
    rw [List.getElem?_cons_succ] at e ⊢
    exact All2.nth2 t e
end

/-! ### rules within a comprehension: what they say of the written part is said of the def's -/
section
open PySem L2
variable {X : Cx} {s : Shared} {H : Hp} {sc : Scope} {ce : Env} {fp : List Addr}
theorem pg_tupB {es : List Expr} {k : Nat} {pos : Pos} {t : TGs} {n : Nat} (hc : X.calm = true) (h : PGs (X.blk s H sc ce fp) es t)
    (hn : (assignEach es (X.blk s H sc ce fp).env).length = n := by rfl) (hst : (assignEach es (X.blk s H sc ce fp).env).findIdx? (·.1) = none := by rfl) : PG (X.blk s H sc ce fp) (.Tuple es k pos) (gTup X.K n t) := pg_tup hc h hn hst
theorem ix_listB : IxR (X.blk s H sc ce fp) (rIxL X.K) := ix_list
theorem ix_tupB : IxR (X.blk s H sc ce fp) (rIxT X.K) := ix_tup
theorem call_len_seqB : CallR (X.blk s H sc ce fp) (.builtin "len") (fun xs H Q => ∃ p ys, xs = [.ref p] ∧ (SqL X.K H p ys ∨ SqT X.K H p ys) ∧ Q (.int ys.length) H) := call_len_seq
theorem op_eqDB (hu : X.A.units + 64 < cLine) : OpR (X.blk s H sc ce fp) (compareOp .Eq) (rEqD X.K) := op_eqD (X := X.blk s H sc ce fp) hu
theorem op_neDB (hu : X.A.units + 64 < cLine) : OpR (X.blk s H sc ce fp) (compareOp .NotEq) (rNeD X.K) := op_neD (X := X.blk s H sc ce fp) hu
theorem op_inDB (hu : X.A.units + 65 < cLine) : OpR (X.blk s H sc ce fp) (compareOp .In) (rInD X.K) := op_inD (X := X.blk s H sc ce fp) hu
theorem op_notInDB (hu : X.A.units + 65 < cLine) : OpR (X.blk s H sc ce fp) (compareOp .NotIn) (rNotInD X.K) := op_notInD (X := X.blk s H sc ce fp) hu
end
theorem Nd.upd {H : Hp} {v : V} {x : Nat × Nat} {s : Addr} {xs : List V} {o : HO} (h : Nd H v x) (hs : H s = some (.lst xs)) : Nd (upd H s o) v x := by
  obtain ⟨p, e, q⟩ := h
  exact ⟨p, e, by rw [upd_ne (ne_of q hs (by intro z; cases z))]; exact q⟩
def full (x : Nat × Nat) : Nat × Nat := (x.1, x.1 + 2 ^ x.2)
theorem pk_len : ∀ (i n b : Nat), (pk i n b).length ≤ i
  | 0, _, _ => Nat.le_refl _
  | i + 1, n, b => by
    show (if n.testBit i = true then (b, i) :: pk i n (b + 2 ^ i) else pk i n b).length ≤ i + 1
    by_cases t : n.testBit i = true
    · rw [if_pos t, List.length_cons]
      exact Nat.succ_le_succ (pk_len i n _)
    · rw [if_neg t]
      exact Nat.le_succ_of_le (pk_len i n b)
theorem take_more {α : Type} : ∀ {l : List α} {i : Nat} {x : α}, l[i]? = some x → l.take (i + 1) = l.take i ++ [x]
  | [], i, x, h => by simp at h
  | a :: l, 0, x, h => by
    have e : a = x := Option.some.inj h
    subst e
    rfl
  | a :: l, i + 1, x, h => by
    have ih := take_more (l := l) (i := i) (x := x) h
    show a :: l.take (i + 1) = a :: l.take i ++ [x]
    rw [ih]
    rfl
theorem szle {n : Nat} (h : n ≤ 100000) : n ≤ sizeLine := Nat.le_trans h (by decide)
theorem szlt {n : Nat} (h : n < 100000) : n < sizeLine := Nat.lt_of_lt_of_le h (by decide)
end LT

namespace LT
open PySem PySem.Spec PyProof.Rows L2
section
variable {X : Cx} {a b c d : Expr} {ta tb tc td : TE} {pos : Pos}
/-- a op1 b op2 c op3 d -/
def tChain3 (r r' r'' : R2) (ta tb tc td : TE) : TE := fun σ H Q => ta σ H fun x H1 => tb σ H1 fun y H2 => r x y H2 fun z H3 => ∃ k, z = .bl k ∧
  (if k = true then tc σ H3 fun w H4 => r' y w H4 fun z2 H5 => ∃ k2, z2 = .bl k2 ∧ (if k2 = true then td σ H5 fun u H6 => r'' w u H6 Q else Q (.bl false) H5) else Q (.bl false) H3)
theorem pt_chain3 {op op' op'' : CmpOp} {r r' r'' : R2} (ho : OpR X (compareOp op) r) (ho' : OpR X (compareOp op') r') (ho'' : OpR X (compareOp op'') r'') (ha : PE X a ta) (hb : PE X b tb) (hc : PE X c tc) (hd : PE X d td)
    (hm : lastMarks [op, op', op''] [b, c, d] = false := by with_unfolding_all rfl) : PT X (.Compare a [op, op', op''] [b, c, d] pos) (tTest (tChain3 r r' r'' ta tb tc td)) := by
  refine ⟨fun pins s σ H Q I h => ?_⟩
  refine isTrue_chain (thn (ha.run pins s σ H _ I h) fun v s1 ⟨x, H1, I1, r1, q1⟩ => test_link (thn (hb.run pins s1 σ H1 _ I1 q1) fun u s2 ⟨y, H2, I2, r2, q2⟩ =>
    thn (ho pins s2 σ H2 x y v u _ I2 r1 r2 q2) fun d s3 ⟨z, H3, I3, r3, k, e, q3⟩ => ?_)) hm
  subst e
  cases r3
  refine wpAny_truthy_bool ?_
  cases k with
  | false =>
    obtain ⟨k', e', q'⟩ := q3
    cases e'
    exact ite_ff ⟨H3, I3, q'⟩
  | true =>
    refine ite_tt (test_link (thn (hc.run pins s3 σ H3 _ I3 q3) fun u' s4 ⟨y', H4, I4, r4, q4⟩ => thn (ho' pins s4 σ H4 y y' u u' _ I4 r2 r4 q4) fun d' s5 ⟨z2, H5, I5, r5, k2, e2, q5⟩ => ?_))
    subst e2
    cases r5
    refine wpAny_truthy_bool ?_
    cases k2 with
    | false =>
      obtain ⟨k', e', q'⟩ := q5
      cases e'
      exact ite_ff ⟨H5, I5, q'⟩
    | true =>
      refine ite_tt (test_last (thn (hd.run pins s5 σ H5 _ I5 q5) fun w' s6 ⟨z', H6, I6, r6, q6⟩ => thn (ho'' pins s6 σ H6 y' z' u' w' _ I6 r4 r6 q6) fun d'' s7 ⟨z3, H7, I7, r7, k3, e3, q7⟩ => ?_))
      subst e3
      cases r7
      exact wpAny_truthy_bool ⟨H7, I7, q7⟩
end
end LT

namespace LT
/-- where the last peak of m entries begins -/
def lastB (m : Nat) : Nat :=
  if h : m ≤ 1 ∨ m = 2 * gp m then 0 else gp m + lastB (m - gp m)
termination_by m
decreasing_by
  have := gp_pos m
  omega
theorem lastB_pow {m : Nat} (h : m ≤ 1 ∨ m = 2 * gp m) : lastB m = 0 := by
  rw [lastB, dif_pos h]
theorem lastB_low {m : Nat} (h : ¬ (m ≤ 1 ∨ m = 2 * gp m)) : lastB m = gp m + lastB (m - gp m) := by
  rw [lastB, dif_neg h]
/-- one more entry puts those of the last peak one deeper, and no others -/
theorem sib_more : ∀ (m b e : Nat), 1 ≤ m → b ≤ e → e < b + m → (sib b (m + 1) e).length = (sib b m e).length + (if b + lastB m ≤ e then 1 else 0) := by
  intro m
  induction m using Nat.strongRecOn with
  | ind m ih =>
    intro b e h1 h2 h3
    by_cases p : m ≤ 1 ∨ m = 2 * gp m
    · rw [lastB_pow p, if_pos (by omega)]
      have g : gp (m + 1) = m := by
        rcases p with p | p
        · have : m = 1 := by omega
          subst this
          rfl
        · have e1 : 2 ^ (Nat.log2 (m - 1) + 1) = m := by
            rw [Nat.pow_succ]
            unfold gp at p
            omega
          have := gp_eq (i := Nat.log2 (m - 1) + 1) (m := m + 1) (by omega) (by omega)
          rw [this, e1]
      rw [sib_low (by omega) (by rw [g]; exact h3), g, List.length_cons]
    · have m2 : 2 ≤ m := by omega
      have g1 := gp_lt m2
      have g2 := gp_ge m2
      have g3 := gp_pos m
      have g : gp (m + 1) = gp m := gp_eq (i := Nat.log2 (m - 1)) (by unfold gp at g1; omega) (by unfold gp at g2 p; omega)
      rw [lastB_low p]
      by_cases k : e < b + gp m
      · rw [sib_low (by omega) (by rw [g]; exact k), sib_low m2 k, g, List.length_cons, List.length_cons, if_neg (by omega)]
      · rw [sib_high (by omega) (by rw [g]; exact k), sib_high m2 k, g, List.length_cons, List.length_cons]
        have em : m + 1 - gp m = m - gp m + 1 := by omega
        rw [em, ih (m - gp m) (by omega) (b + gp m) e (by omega) (by omega) (by omega)]
        by_cases c : b + gp m + lastB (m - gp m) ≤ e
        · rw [if_pos c, if_pos (by omega)]
        · rw [if_neg c, if_neg (by omega)]
/-- a power of two, or the last peak begins where a power of two below it ends: it is as long as a power of two that divides its begin -/
theorem lastB_room : ∀ m, 1 ≤ m → ∃ j, m = lastB m + 2 ^ j ∧ 2 ^ j ∣ lastB m := by
  intro m
  induction m using Nat.strongRecOn with
  | ind m ih =>
    intro h1
    by_cases p : m ≤ 1 ∨ m = 2 * gp m
    · rw [lastB_pow p]
      rcases p with p | p
      · exact ⟨0, by rw [Nat.pow_zero]; omega, Nat.dvd_zero _⟩
      · exact ⟨Nat.log2 (m - 1) + 1, by rw [Nat.pow_succ]; unfold gp at p; omega, Nat.dvd_zero _⟩
    · have m2 : 2 ≤ m := by omega
      have g1 := gp_lt m2
      have g2 := gp_ge m2
      have g3 := gp_pos m
      obtain ⟨j, e, d⟩ := ih (m - gp m) (by omega) (by omega)
      rw [lastB_low p]
      refine ⟨j, by omega, Nat.dvd_add ?_ d⟩
      have lt : 2 ^ j < 2 ^ (Nat.log2 (m - 1) + 1) := by
        rw [Nat.pow_succ]
        unfold gp at g2 e p
        omega
      have := (Nat.pow_lt_pow_iff_right (by decide : 1 < 2)).mp lt
      exact Nat.pow_dvd_pow 2 (by omega)
/-- and as long as the greatest one that divides m -/
theorem lastB_most : ∀ m j, 1 ≤ m → 2 ^ j ∣ m → lastB m + 2 ^ j ≤ m := by
  intro m
  induction m using Nat.strongRecOn with
  | ind m ih =>
    intro j h1 d
    have le := Nat.le_of_dvd (by omega) d
    by_cases p : m ≤ 1 ∨ m = 2 * gp m
    · rw [lastB_pow p]
      omega
    · have m2 : 2 ≤ m := by omega
      have g1 := gp_lt m2
      have g2 := gp_ge m2
      have g3 := gp_pos m
      have lt : 2 ^ j < 2 ^ (Nat.log2 (m - 1) + 1) := by
        rw [Nat.pow_succ]
        unfold gp at g2 p
        omega
      have jl := (Nat.pow_lt_pow_iff_right (by decide : 1 < 2)).mp lt
      have dg : 2 ^ j ∣ gp m := by unfold gp; exact Nat.pow_dvd_pow 2 (by omega)
      have := ih (m - gp m) (by omega) j (by omega) (Nat.dvd_sub d dg)
      rw [lastB_low p]
      omega
/-- the sizes whose last peak has e: where the rooms that have e end -/
theorem last_has {m e : Nat} (h : e < m) : lastB m ≤ e ↔ ∃ j, m = e - e % 2 ^ j + 2 ^ j := by
  constructor
  · intro k
    obtain ⟨j, e1, d⟩ := lastB_room m (by omega)
    refine ⟨j, ?_⟩
    obtain ⟨x, ex⟩ := d
    have em : e % 2 ^ j = e - lastB m := by
      have e2 : e = lastB m + (e - lastB m) := by omega
      rw [e2, ex, Nat.mul_add_mod, Nat.mod_eq_of_lt (by rw [← ex]; omega)]
      omega
    omega
  · rintro ⟨j, e1⟩
    have p := Nat.pow_pos (a := 2) (n := j) (by decide)
    have d0 : 2 ^ j ∣ e - e % 2 ^ j := Nat.dvd_sub_mod e
    have := lastB_most m j (by omega) (by rw [e1]; exact Nat.dvd_add d0 (Nat.dvd_refl _))
    have ml := Nat.mod_lt e p
    have := Nat.mod_le e (2 ^ j)
    omega
/-- where the room of 2 ^ j that has e ends -/
def endR (e j : Nat) : Nat := e - e % 2 ^ j + 2 ^ j
theorem endR_gt (e j : Nat) : e < endR e j := by
  have := Nat.mod_lt e (Nat.pow_pos (a := 2) (n := j) (by decide))
  have := Nat.mod_le e (2 ^ j)
  unfold endR
  omega
theorem endR_le (e j : Nat) : endR e j ≤ endR e (j + 1) := by
  have e1 := Nat.mod_pow_succ (b := 2) (k := j) (x := e)
  have h : e / 2 ^ j % 2 = 0 ∨ e / 2 ^ j % 2 = 1 := by omega
  have m1 := Nat.mod_le e (2 ^ j)
  have m2 := Nat.mod_le e (2 ^ (j + 1))
  unfold endR
  rw [Nat.pow_succ] at *
  rcases h with h | h <;> rw [h] at e1 <;> omega
theorem endR_mono (e : Nat) {i j : Nat} (h : i ≤ j) : endR e i ≤ endR e j := by
  induction j with
  | zero => rw [show i = 0 by omega]; exact Nat.le_refl _
  | succ j ih =>
    by_cases c : i = j + 1
    · subst c; exact Nat.le_refl _
    · exact Nat.le_trans (ih (by omega)) (endR_le e j)
/-- the depth stays where no room that has e ends -/
theorem sib_flat {e s : Nat} (h : e < s) : ∀ k, (∀ t, s ≤ t → t < s + k → ∀ j, t ≠ endR e j) → (sib 0 (s + k) e).length = (sib 0 s e).length
  | 0, _ => rfl
  | k + 1, no => by
    have ih := sib_flat h k (fun t h1 h2 => no t h1 (by omega))
    have st := sib_more (s + k) 0 e (by omega) (Nat.zero_le _) (by omega)
    rw [if_neg (fun z => ?_)] at st
    · rw [show s + (k + 1) = s + k + 1 by omega, st, ih, Nat.add_zero]
    · rw [Nat.zero_add] at z
      obtain ⟨j, ej⟩ := (last_has (by omega)).mp z
      exact no (s + k) (by omega) (by omega) j ej
/-- and is one more behind each such end -/
theorem sib_behind (e j : Nat) : (sib 0 (endR e j + 1) e).length = (sib 0 (endR e j) e).length + 1 := by
  have g := endR_gt e j
  have st := sib_more (endR e j) 0 e (by omega) (Nat.zero_le _) (by omega)
  rw [if_pos (by rw [Nat.zero_add]; exact (last_has g).mpr ⟨j, rfl⟩)] at st
  exact st
/-- it never gets less -/
theorem sib_grows {e s : Nat} (h : e < s) : ∀ k, (sib 0 s e).length ≤ (sib 0 (s + k) e).length
  | 0 => Nat.le_refl _
  | k + 1 => by
    have ih := sib_grows h k
    have st := sib_more (s + k) 0 e (by omega) (Nat.zero_le _) (by omega)
    rw [show s + (k + 1) = s + k + 1 by omega, st]
    omega
end LT

namespace LT
open PySem PySem.Spec PyProof.Rows L2
section
variable {P : Program} {w : World} {K : PySem.W.Frag} {mg : Str → Option Value} {base : Heap}
def spWhole : Sp := fun vs H Q _ => ∃ i : Int, vs = [.int i] ∧ Q (.bl true) H
theorem ok_is_whole {f : Addr} {fd : FuncData} (F : Fun K "is_whole" "is_whole" sIsWhole f fd) (z_isinstance : mg "isinstance" = none) (z_int : mg "int" = none) (z_bool : mg "bool" = none) : FnOk P w K mg base CX0 1 f fd ["value"] spWhole := by
  refine F.ok scIsWhole (fun vs H Q E h => ?_) (fun cdv A outer s H vs Q E hr h => ?_)
  · obtain ⟨i, rfl, _⟩ := h
    rfl
  obtain ⟨i, rfl, q⟩ := h
  refine ⟨_, (pss_one (ps_ret (pe_and (pe_callB call_isi (by rfl) z_isinstance (by decide +kernel) (pa_cons (pv 0) (pa_cons (pe_bltn (v := .ty "int") (u := .type "int") (by rfl) z_int (by decide +kernel) rfl) pa_nil))) (pe_one (pe_not (pe_callB call_isi (by rfl) z_isinstance (by decide +kernel) (pa_cons (pv 0) (pa_cons (pe_bltn (v := .ty "bool") (u := .type "bool") (by rfl) z_bool (by decide +kernel) rfl) pa_nil)))))))), ?_⟩
  refine ⟨_, rfl, _, _, _, _, true, rfl, .ty "int", .base (.int i), kit_ty (by decide +kernel), true, rfl, ?_⟩
  refine ⟨_, rfl, _, _, _, _, false, rfl, .ty "bool", .base (.int i), kit_ty (by decide +kernel), false, rfl, ?_⟩
  exact q
def spBetween : Sp := fun vs H Q _ => ∃ v lo hi : Int, vs = [.int v, .int lo, .int hi] ∧ Q (.bl (decide (lo ≤ v) && decide (v ≤ hi))) H
theorem ok_is_between {f g : Addr} {fd gd : FuncData} (F : Fun K "is_between" "is_between" sIsBetween f fd) (GIsWhole : FnOk P w K mg base CX0 1 g gd ["value"] spWhole) (AIsWhole : At K mg "is_whole" g gd ["value"]) : FnOk P w K mg base CX0 2 f fd ["value", "low", "high"] spBetween := by
  refine F.ok scIsBetween (fun vs H Q E h => ?_) (fun cdv A outer s H vs Q E hr h => ?_)
  · obtain ⟨i, _, _, rfl, _⟩ := h
    rfl
  obtain ⟨v, lo, hi, rfl, q⟩ := h
  refine ⟨_, (pss_one (ps_ret (pe_and (pe_call GIsWhole (hr.mono (by decide)) rfl AIsWhole.m AIsWhole.kp AIsWhole.b .nil pass0 (pa_cons (pv 0) pa_nil)) (pe_one (pe_chain op_le op_le (pv 1) (pv 0) (pv 2)))))), ?_⟩
  refine ⟨_, rfl, v, rfl, true, rfl, ?_⟩
  refine ⟨_, rfl, _, rfl, _, _, rfl, rfl, _, rfl, ?_⟩
  by_cases h1 : lo ≤ v
  · rw [decide_eq_true h1] at q ⊢
    exact ⟨_, rfl, _, _, rfl, rfl, q⟩
  · rw [decide_eq_false h1] at q ⊢
    exact q
def spCheckSize : Sp := fun vs H Q _ => ∃ n : Int, vs = [.int n] ∧ 1 ≤ n ∧ n ≤ 10 ^ 30 ∧ Q .non H
theorem ok_check_size {f g : Addr} {fd gd : FuncData} {t : Tok} (F : Fun K "check_size" "check_size" sCheckSize f fd) (GIsBetween : FnOk P w K mg base CX0 2 g gd ["value", "low", "high"] spBetween) (AIsBetween : At K mg "is_between" g gd ["value", "low", "high"]) (g_MOST_ENTRIES : mg "MOST_ENTRIES" = some (.int 1000000000000000000000000000000 t)) : FnOk P w K mg base CX0 3 f fd ["size"] spCheckSize := by
  refine F.ok scCheckSize (fun vs H Q E h => ?_) (fun cdv A outer s H vs Q E hr h => ?_)
  · obtain ⟨i, rfl, _⟩ := h
    rfl
  obtain ⟨n, rfl, h1, h2, q⟩ := h
  refine ⟨_, (pss_one (ps_if (pt_not (pt_val (pe_call GIsBetween (hr.mono (by decide)) rfl AIsBetween.m AIsBetween.kp AIsBetween.b .nil pass0 (pa_cons (pv 0) (pa_cons pe_int (pa_cons (pe_glob (v := .int 1000000000000000000000000000000) rfl g_MOST_ENTRIES ⟨_, rfl⟩) pa_nil))))))
    (pss_one ps_never)
    pss_nil)), ?_⟩
  refine ⟨_, rfl, n, 1, 1000000000000000000000000000000, rfl, _, rfl, ?_⟩
  rw [decide_eq_true h1, decide_eq_true (show n ≤ 1000000000000000000000000000000 from h2)]
  exact q
end
end LT

namespace LT
open PySem PySem.Spec PyProof.Rows L2
section
variable {P : Program} {w : World} {K : PySem.W.Frag} {mg : Str → Option Value} {base : Heap}
def spNextEnd : Sp := fun vs H Q _ => ∃ (e s : Nat), vs = [.int e, .int s] ∧ s < 2 ^ 200 ∧ ∀ j, s < endR e j → (∀ i, i < j → endR e i ≤ s) → j ≤ 200 → Q (.int (endR e j : Int)) H
theorem endR_ge (e j : Nat) : 2 ^ j ≤ endR e j := by unfold endR; omega
theorem ok_next_end {f : Addr} {fd : FuncData} (F : Fun K "_next_end" "_next_end" sNextEnd f fd) : FnOk P w K mg base CX0 1 f fd ["entry", "end"] spNextEnd := by
  refine F.ok scNextEnd (fun vs H Q E h => ?_) (fun cdv A outer s H vs Q E hr h => ?_)
  · obtain ⟨_, _, rfl, _⟩ := h
    rfl
  obtain ⟨e, l, rfl, hl, q⟩ := h
  refine ⟨_, (pss_cons (ps_set (i := 2) scNextEnd.nd rfl (Or.inl rfl) pe_int)
    (pss_cons (ps_while PassesOwn.never (pt_cmpR op_le (pe_op op_add (pe_op op_sub (pv 0) (pe_op op_modN (pv 0) (pv 2))) (pv 2)) (pv 1) (nomark _))
    (pss_one (ps_set (i := 2) scNextEnd.nd rfl (Or.inl rfl) (pe_op op_mul (pv 2) pe_int))))
    (pss_one (ps_ret (pe_op op_add (pe_op op_sub (pv 0) (pe_op op_modN (pv 0) (pv 2))) (pv 2)))))), ?_⟩
  refine ⟨fun mu σ H' => ∃ j : Nat, σ = [some (.int (e : Int)), some (.int (l : Int)), some (.int ((2 ^ j : Nat) : Int))] ∧ H' = H ∧ (∀ i, i < j → endR e i ≤ l) ∧ j ≤ 200 ∧ mu = 200 - j, ⟨200, 0, rfl, rfl, fun i h => absurd h (by omega), by omega, rfl⟩, ?_⟩
  rintro mu σ H1 ⟨j, rfl, rfl, hj, j200, rfl⟩
  have fm : Int.fmod (e : Int) ((2 ^ j : Nat) : Int) = ((e % 2 ^ j : Nat) : Int) := by
    rw [Int.fmod_eq_emod_of_nonneg _ (Int.natCast_nonneg _)]
    exact (Int.natCast_emod _ _).symm
  have pj : 0 < 2 ^ j := Nat.pow_pos (by decide)
  have ev : (e : Int) - Int.fmod (e : Int) ((2 ^ j : Nat) : Int) + ((2 ^ j : Nat) : Int) = ((endR e j : Nat) : Int) := by
    rw [fm]
    have := Nat.mod_le e (2 ^ j)
    unfold endR
    omega
  have nz : ((2 ^ j : Nat) : Int) ≠ 0 := by omega
  refine ⟨_, rfl, _, rfl, _, rfl, _, _, rfl, rfl, nz, _, _, rfl, rfl, _, rfl, _, _, rfl, rfl, _, rfl, _, _, rfl, rfl, _, rfl, ite2 (fun c => ?_) (fun c => ?_)⟩
  · have c1 : (e : Int) - Int.fmod (e : Int) ((2 ^ j : Nat) : Int) + ((2 ^ j : Nat) : Int) ≤ (l : Int) := of_decide_eq_true c
    rw [ev] at c1
    have k1 := endR_ge e j
    have jl : j < 200 := by
      have : 2 ^ j < 2 ^ 200 := by omega
      exact (Nat.pow_lt_pow_iff_right (by decide : 1 < 2)).mp this
    refine ⟨_, fun σ' H' h => h, _, rfl, _, _, rfl, rfl, .inr ⟨by decide, by decide⟩, ?_⟩
    have er : ((2 ^ j : Nat) : Int) * 2 = ((2 ^ (j + 1) : Nat) : Int) := by rw [Nat.pow_succ]; omega
    refine ⟨200 - (j + 1), by omega, j + 1, ?_, rfl, fun i hi => ?_, by omega, rfl⟩
    · rw [← er]
      rfl
    · by_cases z : i < j
      · exact hj i z
      · have : i = j := by omega
        subst this
        omega
  · have c1 : ¬ (e : Int) - Int.fmod (e : Int) ((2 ^ j : Nat) : Int) + ((2 ^ j : Nat) : Int) ≤ (l : Int) := of_decide_eq_false (Bool.eq_false_iff.mpr c)
    rw [ev] at c1
    have q2 := q j (by omega) hj j200
    rw [← ev] at q2
    exact ⟨_, rfl, _, rfl, _, rfl, _, _, rfl, rfl, nz, _, _, rfl, rfl, _, rfl, _, _, rfl, rfl, q2⟩
end
end LT

namespace LT
open PySem PySem.Spec PyProof.Rows L2
section
variable {P : Program} {w : World} {K : PySem.W.Frag} {mg : Str → Option Value} {base : Heap}
def spCheckEntry : Sp := fun vs H Q _ => ∃ n e : Int, vs = [.int n, .int e] ∧ 0 ≤ e ∧ e < n ∧ Q .non H
theorem ok_check_entry {f g : Addr} {fd gd : FuncData} (F : Fun K "check_entry" "check_entry" sCheckEntry f fd) (GIsBetween : FnOk P w K mg base CX0 2 g gd ["value", "low", "high"] spBetween) (AIsBetween : At K mg "is_between" g gd ["value", "low", "high"]) : FnOk P w K mg base CX0 3 f fd ["size", "entry"] spCheckEntry := by
  refine F.ok scCheckEntry (fun vs H Q E h => ?_) (fun cdv A outer s H vs Q E hr h => ?_)
  · obtain ⟨i, _, rfl, _⟩ := h
    rfl
  obtain ⟨n, e, rfl, h1, h2, q⟩ := h
  refine ⟨_, (pss_one (ps_if (pt_not (pt_val (pe_call GIsBetween (hr.mono (by decide)) rfl AIsBetween.m AIsBetween.kp AIsBetween.b .nil pass0 (pa_cons (pv 1) (pa_cons pe_int (pa_cons (pe_op op_sub (pv 0) pe_int) pa_nil))))))
    (pss_one ps_never)
    pss_nil)), ?_⟩
  refine ⟨_, rfl, _, rfl, _, _, rfl, rfl, e, 0, n - 1, rfl, _, rfl, ?_⟩
  rw [decide_eq_true h1, decide_eq_true (show e ≤ n - 1 by omega)]
  exact q
end
end LT

namespace LT
open PySem PySem.Spec PyProof.Rows L2
theorem bits_nat (k : Nat) : Builtin.Int.intBits (k : Int) = if k = 0 then 0 else k.log2 + 1 := by
  unfold Builtin.Int.intBits
  by_cases h : k = 0
  · subst h; rfl
  · rw [if_neg h, if_neg (by simpa using h)]
    rfl
theorem bits_lb {m : Nat} (h : 1 ≤ m) : Builtin.Int.intBits ((m - 1 : Nat) : Int) = lb m := by
  rw [bits_nat]
  unfold lb
  by_cases k : m ≤ 1
  · rw [if_pos k, if_pos (by omega)]
  · rw [if_neg k, if_neg (by omega)]
theorem lb100 {m : Nat} (h : m ≤ 10 ^ 30) : lb m ≤ 100 := lb_le (Nat.le_trans h (by decide))
theorem fmod_of_dvd {a b : Nat} (h : a ∣ b) : Int.fmod (b : Int) (a : Int) = 0 := by
  rw [Int.fmod_eq_emod_of_nonneg _ (Int.natCast_nonneg _)]
  exact Int.emod_eq_zero_of_dvd (Int.natCast_dvd_natCast.mpr h)
end LT

namespace LT
open PySem PySem.Spec PyProof.Rows L2
section
variable {P : Program} {w : World} {K : PySem.W.Frag} {mg : Str → Option Value} {base : Heap}
def spTree : Sp := fun vs H Q _ => ∃ (n b m : Nat) (v : V), vs = [.int n, v] ∧ Nd H v (b, b + m) ∧ 1 ≤ m ∧ b + m ≤ n ∧ n ≤ 10 ^ 30 ∧ tree n b m ∧ Q (.bl true) H
theorem ok_is_tree_node {f g : Addr} {fd gd : FuncData} (F : Fun K "is_tree_node" "is_tree_node" sIsTreeNode f fd) (GIsBetween : FnOk P w K mg base CX0 2 g gd ["value", "low", "high"] spBetween) (AIsBetween : At K mg "is_between" g gd ["value", "low", "high"])
    (z_isinstance : mg "isinstance" = none) (z_tuple : mg "tuple" = none) (z_len : mg "len" = none) : FnOk P w K mg base CX0 3 f fd ["size", "value"] spTree := by
  refine F.ok scIsTreeNode (fun vs H Q E h => ?_) (fun cdv A outer s H vs Q E hr h => ?_)
  · obtain ⟨_, _, _, _, rfl, _⟩ := h
    rfl
  obtain ⟨n, b, m, v, rfl, ⟨p, rfl, hp⟩, hm, hn, h30, ht, q⟩ := h
  refine ⟨_, (pss_cons (ps_if (PW.pt (pw_or (pt_not (pt_val (pe_callB call_isi (by rfl) z_isinstance (by decide +kernel) (pa_cons (pv 1) (pa_cons (pe_bltn (v := .ty "tuple") (u := .type "tuple") (by rfl) z_tuple (by decide +kernel) rfl) pa_nil))))) (pw_or1 (pt_cmpR op_ne (pe_callB call_len_seq (by rfl) z_len PySem.boot_len (pa_cons (pv 1) pa_nil)) pe_int (nomark _)))))
    (pss_one (ps_ret pe_bl))
    pss_nil)
    (pss_cons (ps_asg (pv 1) (pg_tup (by rfl) (pgs_cons (pg_name (i := 2) scIsTreeNode.nd rfl (Or.inl rfl)) (pgs_cons (pg_name (i := 3) scIsTreeNode.nd rfl (Or.inl rfl)) pgs_nil))))
    (pss_cons (ps_if (PW.pt (pw_or (pt_not (pt_val (pe_call GIsBetween (hr.mono (by decide)) rfl AIsBetween.m AIsBetween.kp AIsBetween.b .nil pass0 (pa_cons (pv 2) (pa_cons pe_int (pa_cons (pe_op op_sub (pv 0) pe_int) pa_nil)))))) (pw_or1 (pt_not (pt_val (pe_call GIsBetween (hr.mono (by decide)) rfl AIsBetween.m AIsBetween.kp AIsBetween.b .nil pass0 (pa_cons (pv 3) (pa_cons (pe_op op_add (pv 2) pe_int) (pa_cons (pv 0) pa_nil)))))))))
    (pss_one (ps_ret pe_bl))
    pss_nil)
    (pss_cons (ps_set (i := 4) scIsTreeNode.nd rfl (Or.inl rfl) (pe_op op_shl pe_int (pe_bits (pe_op op_sub (pe_op op_sub (pv 3) (pv 2)) pe_int))))
    (pss_one (ps_ret (pe_and (pe_cmpR op_eq (pe_op op_modN (pv 2) (pv 4)) pe_int (nomark _)) (pe_one (pe_or (pe_cmpR op_eq (pe_op op_sub (pv 3) (pv 2)) (pv 4) (nomark _)) (pe_one (pe_cmpR op_eq (pv 3) (pv 0) (nomark _)))))))))))), ?_⟩
  refine ⟨_, rfl, _, _, _, _, true, rfl, .ty "tuple", .base (.tup hp), kit_ty (by decide +kernel), true, rfl, ?_⟩
  refine ⟨_, rfl, p, _, rfl, .inr (SqT.of hp), rfl, false, rfl, ?_⟩
  refine ⟨_, rfl, p, _, rfl, SqT.of hp, rfl, _, _, rfl, _, _, rfl, rfl, ?_⟩
  refine ⟨_, rfl, _, rfl, _, _, rfl, rfl, _, _, _, rfl, true, ?_, ?_⟩
  · exact congrArg V.bl (by rw [Bool.and_eq_true]; exact ⟨decide_eq_true (by omega), decide_eq_true (by show (b : Int) ≤ n - 1; omega)⟩)
  refine ⟨_, rfl, _, rfl, _, _, rfl, rfl, _, rfl, _, _, _, rfl, true, ?_, ?_⟩
  · exact congrArg V.bl (by rw [Bool.and_eq_true]; exact ⟨decide_eq_true (by show (b : Int) + 1 ≤ ((b + m : Nat) : Int); omega), decide_eq_true (by show ((b + m : Nat) : Int) ≤ n; omega)⟩)
  have e1 : ((b + m : Nat) : Int) - (b : Int) - 1 = ((m - 1 : Nat) : Int) := by omega
  refine ⟨_, rfl, _, rfl, _, _, rfl, rfl, _, _, rfl, rfl, _, rfl, ?_⟩
  dsimp only
  rw [e1, bits_lb hm]
  have l100 := lb100 (show m ≤ 10 ^ 30 by omega)
  refine ⟨_, _, rfl, rfl, ⟨Int.natCast_nonneg _, by omega, by decide⟩, ?_⟩
  have e2 : (1 : Int) * 2 ^ ((lb m : Nat) : Int).toNat = ((2 ^ lb m : Nat) : Int) := by rw [Int.one_mul, Int.toNat_natCast]; exact (Int.natCast_pow 2 (lb m)).symm
  dsimp only
  rw [e2]
  obtain ⟨d, k⟩ := ht
  have pz : 0 < 2 ^ lb m := Nat.pow_pos (by decide)
  generalize 2 ^ lb m = R at d k pz
  refine ⟨_, rfl, _, rfl, _, _, rfl, rfl, by omega, rfl, true, ?_, ?_⟩
  · show V.bl (decide (V.int (Int.fmod (b : Int) (R : Int)) = V.int 0)) = V.bl true
    rw [fmod_of_dvd d, decide_eq_true rfl]
  refine ⟨_, rfl, _, rfl, _, _, rfl, rfl, _, rfl, rfl, _, rfl, ite2 (fun c => q) (fun c => ?_)⟩
  have c1 : ¬ V.int (((b + m : Nat) : Int) - (b : Int)) = V.int (R : Int) := of_decide_eq_false (Bool.eq_false_iff.mpr c)
  refine ⟨_, rfl, _, rfl, rfl, ?_⟩
  have e4 : b + m = n := by
    rcases k with k | k
    · exact absurd (congrArg V.int (by omega)) c1
    · exact k
  show Q (V.bl (decide (V.int ((b + m : Nat) : Int) = V.int (n : Int)))) H
  rw [decide_eq_true (by rw [e4])]
  exact q
def spCheckNode : Sp := fun vs H Q _ => ∃ (n b m : Nat) (v : V), vs = [.int n, v] ∧ Nd H v (b, b + m) ∧ 1 ≤ m ∧ b + m ≤ n ∧ n ≤ 10 ^ 30 ∧ tree n b m ∧ Q .non H
theorem ok_check_node {f g : Addr} {fd gd : FuncData} (F : Fun K "check_node" "check_node" sCheckNode f fd) (GIsTreeNode : FnOk P w K mg base CX0 3 g gd ["size", "value"] spTree) (AIsTreeNode : At K mg "is_tree_node" g gd ["size", "value"]) : FnOk P w K mg base CX0 4 f fd ["size", "node"] spCheckNode := by
  refine F.ok scCheckNode (fun vs H Q E h => ?_) (fun cdv A outer s H vs Q E hr h => ?_)
  · obtain ⟨_, _, _, _, rfl, _⟩ := h
    rfl
  obtain ⟨n, b, m, v, rfl, hv, hm, hn, h30, ht, q⟩ := h
  refine ⟨_, (pss_one (ps_if (pt_not (pt_val (pe_call GIsTreeNode (hr.mono (by decide)) rfl AIsTreeNode.m AIsTreeNode.kp AIsTreeNode.b .nil pass0 (pa_cons (pv 0) (pa_cons (pv 1) pa_nil)))))
    (pss_one ps_never)
    pss_nil)), ?_⟩
  refine ⟨_, rfl, _, rfl, n, b, m, v, rfl, hv, hm, hn, h30, ht, true, rfl, q⟩
end
end LT

namespace LT
open PySem PySem.Spec PyProof.Rows L2
section
variable {P : Program} {w : World} {K : PySem.W.Frag} {mg : Str → Option Value} {base : Heap}
def spCheckNumber : Sp := fun vs H Q _ => ∃ n : Int, vs = [.int n] ∧ Q .non H
theorem ok_check_number {f g : Addr} {fd gd : FuncData} (F : Fun K "check_number" "check_number" sCheckNumber f fd) (GIsWhole : FnOk P w K mg base CX0 1 g gd ["value"] spWhole) (AIsWhole : At K mg "is_whole" g gd ["value"]) : FnOk P w K mg base CX0 2 f fd ["number"] spCheckNumber := by
  refine F.ok scCheckNumber (fun vs H Q E h => ?_) (fun cdv A outer s H vs Q E hr h => ?_)
  · obtain ⟨_, rfl, _⟩ := h
    rfl
  obtain ⟨n, rfl, q⟩ := h
  refine ⟨_, (pss_one (ps_if (pt_not (pt_val (pe_call GIsWhole (hr.mono (by decide)) rfl AIsWhole.m AIsWhole.kp AIsWhole.b .nil pass0 (pa_cons (pv 0) pa_nil))))
    (pss_one ps_never)
    pss_nil)), ?_⟩
  exact ⟨_, rfl, n, rfl, true, rfl, q⟩
end
end LT

namespace LT
open PySem PySem.Spec PyProof.Rows L2
section
variable {P : Program} {w : World} {K : PySem.W.Frag} {mg : Str → Option Value} {base : Heap}
def spPower : Sp := fun vs H Q _ => ∃ (k : Nat), vs = [.int k] ∧ 1 ≤ k ∧ k ≤ 10 ^ 30 ∧ Q (.int ((2 ^ k.log2 : Nat) : Int)) H
theorem ok_power_within {f : Addr} {fd : FuncData} (F : Fun K "power_within" "power_within" sPowerWithin f fd) : FnOk P w K mg base CX0 1 f fd ["number"] spPower := by
  refine F.ok scPowerWithin (fun vs H Q E h => ?_) (fun cdv A outer s H vs Q E hr h => ?_)
  · obtain ⟨_, rfl, _⟩ := h
    rfl
  obtain ⟨k, rfl, h1, h30, q⟩ := h
  refine ⟨_, (pss_one (ps_ret (pe_op op_shl pe_int (pe_op op_sub (pe_bits (pv 0)) pe_int)))), ?_⟩
  refine ⟨_, rfl, _, rfl, _, _, rfl, rfl, ?_⟩
  dsimp only
  have e : ((Builtin.Int.intBits (k : Int) : Nat) : Int) - 1 = ((k.log2 : Nat) : Int) := by
    rw [bits_nat, if_neg (by omega)]
    omega
  rw [e]
  have l100 : k.log2 < 100 := (Nat.log2_lt (by omega)).mpr (Nat.lt_of_le_of_lt h30 (by decide))
  refine ⟨_, _, rfl, rfl, ⟨Int.natCast_nonneg _, by omega, by decide⟩, ?_⟩
  have e2 : (1 : Int) * 2 ^ ((k.log2 : Nat) : Int).toNat = ((2 ^ k.log2 : Nat) : Int) := by rw [Int.one_mul, Int.toNat_natCast]; exact (Int.natCast_pow 2 _).symm
  show Q (.int ((1 : Int) * 2 ^ ((k.log2 : Nat) : Int).toNat)) H
  rw [e2]
  exact q
end
end LT

namespace LT
open PySem PySem.Spec PyProof.Rows L2
section
variable {P : Program} {w : World} {K : PySem.W.Frag} {mg : Str → Option Value} {base : Heap}
def spHalves : Sp := fun vs H Q _ => ∃ (n b m : Nat) (v : V), vs = [.int n, v] ∧ Nd H v (b, b + m) ∧ 2 ≤ m ∧ b + m ≤ n ∧ n ≤ 10 ^ 30 ∧ tree n b m ∧
  ∀ (H' : Hp) (q : Addr) (l h : V), Same H H' → H q = none → H' q = some (.tup [l, h]) → Nd H' l (b, b + gp m) → Nd H' h (b + gp m, b + m) → Q (.ref q) H'
theorem ok_halves {f g1 g2 g3 : Addr} {fd d1 d2 d3 : FuncData} (F : Fun K "halves" "halves" sHalves f fd) (GCheckSize : FnOk P w K mg base CX0 3 g1 d1 ["size"] spCheckSize) (ACheckSize : At K mg "check_size" g1 d1 ["size"])
    (GCheckNode : FnOk P w K mg base CX0 4 g2 d2 ["size", "node"] spCheckNode) (ACheckNode : At K mg "check_node" g2 d2 ["size", "node"]) (GPowerWithin : FnOk P w K mg base CX0 1 g3 d3 ["number"] spPower) (APowerWithin : At K mg "power_within" g3 d3 ["number"]) :
    FnOk P w K mg base CX0 5 f fd ["size", "node"] spHalves := by
  refine F.ok scHalves (fun vs H Q E h => ?_) (fun cdv A outer s H vs Q E hr h => ?_)
  · obtain ⟨_, _, _, _, rfl, _⟩ := h
    rfl
  obtain ⟨n, b, m, v, rfl, hv, hm, hn, h30, ht, q⟩ := h
  refine ⟨_, (pss_cons (ps_expr (pe_call GCheckSize (hr.mono (by decide)) rfl ACheckSize.m ACheckSize.kp ACheckSize.b .nil pass0 (pa_cons (pv 0) pa_nil)))
    (pss_cons (ps_expr (pe_call GCheckNode (hr.mono (by decide)) rfl ACheckNode.m ACheckNode.kp ACheckNode.b .nil pass0 (pa_cons (pv 0) (pa_cons (pv 1) pa_nil))))
    (pss_cons (ps_asg (pv 1) (pg_tup (by rfl) (pgs_cons (pg_name (i := 2) scHalves.nd rfl (Or.inl rfl)) (pgs_cons (pg_name (i := 3) scHalves.nd rfl (Or.inl rfl)) pgs_nil))))
    (pss_cons (ps_if (pt_cmpR op_eq (pe_op op_sub (pv 3) (pv 2)) pe_int (nomark _))
    (pss_one (ps_ret pe_non))
    pss_nil)
    (pss_cons (ps_set (i := 4) scHalves.nd rfl (Or.inl rfl) (pe_op op_add (pv 2) (pe_call GPowerWithin (hr.mono (by decide)) rfl APowerWithin.m APowerWithin.kp APowerWithin.b .nil pass0 (pa_cons (pe_op op_sub (pe_op op_sub (pv 3) (pv 2)) pe_int) pa_nil))))
    (pss_one (ps_ret (pe_tup (pa_cons (pe_tup (pa_cons (pv 2) (pa_cons (pv 4) pa_nil))) (pa_cons (pe_tup (pa_cons (pv 4) (pa_cons (pv 3) pa_nil))) pa_nil)))))))))), ?_⟩
  refine ⟨_, rfl, n, rfl, by omega, by omega, ?_⟩
  refine ⟨_, rfl, _, rfl, n, b, m, v, rfl, hv, by omega, hn, h30, ht, ?_⟩
  obtain ⟨p, rfl, hp⟩ := id hv
  refine ⟨_, rfl, p, _, rfl, SqT.of hp, rfl, _, _, rfl, _, _, rfl, rfl, ?_⟩
  refine ⟨_, rfl, _, rfl, _, _, rfl, rfl, rfl, _, rfl, ite2 (fun c => ?_) (fun _ => ?_)⟩
  · have c1 : V.int (((b + m : Nat) : Int) - (b : Int)) = V.int 1 := of_decide_eq_true c
    have := V.int.inj c1
    omega
  have e1 : ((b + m : Nat) : Int) - (b : Int) - 1 = ((m - 1 : Nat) : Int) := by omega
  refine ⟨_, rfl, _, rfl, _, rfl, _, _, rfl, rfl, _, _, rfl, rfl, m - 1, congrArg (fun z => [V.int z]) e1, by omega, by omega, _, _, rfl, rfl, ?_⟩
  have e2 : (b : Int) + ((2 ^ (m - 1).log2 : Nat) : Int) = ((b + gp m : Nat) : Int) := by unfold gp; omega
  have two : 2 ≤ sizeLine := by decide
  refine ⟨_, rfl, _, rfl, two, fun t1 n1 => ⟨_, rfl, _, rfl, two, fun t2 n2 => ⟨two, fun t3 n3 => ?_⟩⟩⟩
  dsimp only
  have s1 := same_upd (o := .tup [.int (b : Int), .int ((b : Int) + ((2 ^ (m - 1).log2 : Nat) : Int))]) n1
  have s2 := same_upd (o := .tup [.int ((b : Int) + ((2 ^ (m - 1).log2 : Nat) : Int)), .int ((b + m : Nat) : Int)]) n2
  have s3 := same_upd (o := .tup [.ref t1, .ref t2]) n3
  refine q _ t3 (.ref t1) (.ref t2) (s1.trans (s2.trans s3)) ((s1.trans s2).free n3) upd_same ⟨t1, rfl, s3 _ _ (s2 _ _ ?_)⟩ ⟨t2, rfl, s3 _ _ ?_⟩
  · rw [upd_same]
    dsimp only
    rw [e2]
  · rw [upd_same]
    dsimp only
    rw [e2]
def spPath : Sp := fun vs H Q _ => ∃ (n e : Nat), vs = [.int n, .int e] ∧ e < n ∧ n ≤ 10 ^ 30 ∧
  ∀ (H' : Hp) (p : Addr) (xs : List V), Same H H' → H p = none → H' p = some (.lst xs) → All2 (Nd H') xs (sib 0 n e).reverse → Q (.ref p) H'
theorem ok_path {f g1 g2 g3 : Addr} {fd d1 d2 d3 : FuncData} (F : Fun K "path" "path" sPath f fd) (GCheckSize : FnOk P w K mg base CX0 3 g1 d1 ["size"] spCheckSize) (ACheckSize : At K mg "check_size" g1 d1 ["size"])
    (GCheckEntry : FnOk P w K mg base CX0 3 g2 d2 ["size", "entry"] spCheckEntry) (ACheckEntry : At K mg "check_entry" g2 d2 ["size", "entry"]) (GHalves : FnOk P w K mg base CX0 5 g3 d3 ["size", "node"] spHalves) (AHalves : At K mg "halves" g3 d3 ["size", "node"]) :
    FnOk P w K mg base CX0 6 f fd ["size", "entry"] spPath := by
  refine F.ok scPath (fun vs H Q E h => ?_) (fun cdv A outer s H vs Q E hr h => ?_)
  · obtain ⟨_, _, rfl, _⟩ := h
    rfl
  obtain ⟨n, e, rfl, he, h30, q⟩ := h
  refine ⟨_, (pss_cons (ps_expr (pe_call GCheckSize (hr.mono (by decide)) rfl ACheckSize.m ACheckSize.kp ACheckSize.b .nil pass0 (pa_cons (pv 0) pa_nil)))
    (pss_cons (ps_expr (pe_call GCheckEntry (hr.mono (by decide)) rfl ACheckEntry.m ACheckEntry.kp ACheckEntry.b .nil pass0 (pa_cons (pv 0) (pa_cons (pv 1) pa_nil))))
    (pss_cons (ps_set (i := 2) scPath.nd rfl (Or.inl rfl) (pe_lst pa_nil))
    (pss_cons (ps_set (i := 3) scPath.nd rfl (Or.inl rfl) (pe_tup (pa_cons pe_int (pa_cons (pv 0) pa_nil))))
    (pss_cons (ps_while PassesOwn.never (pt_cmpR (op_neD hr.units) (pv 3) (pe_tup (pa_cons (pv 1) (pa_cons (pe_op op_add (pv 1) pe_int) pa_nil))) (nomark _))
    (pss_cons (ps_asg (pe_call GHalves (hr.mono (by decide)) rfl AHalves.m AHalves.kp AHalves.b .nil pass0 (pa_cons (pv 0) (pa_cons (pv 3) pa_nil))) (pg_tup (by rfl) (pgs_cons (pg_name (i := 4) scPath.nd rfl (Or.inl rfl)) (pgs_cons (pg_name (i := 5) scPath.nd rfl (Or.inl rfl)) pgs_nil))))
    (pss_one (ps_if (pt_cmpR op_lt (pv 1) (pe_ix ix_tup (pv 4) pe_int (fun _ _ => rfl)) (nomark _))
    (pss_cons (ps_set (i := 3) scPath.nd rfl (Or.inl rfl) (pv 4))
    (pss_one (ps_expr (pe_bm PySem.F.plainAttrs_list PySem.F.slot_list_append PySem.F.type_list_append mt_append (pv 2) (pa_cons (pv 5) pa_nil)))))
    (pss_cons (ps_set (i := 3) scPath.nd rfl (Or.inl rfl) (pv 5))
    (pss_one (ps_expr (pe_bm PySem.F.plainAttrs_list PySem.F.slot_list_append PySem.F.type_list_append mt_append (pv 2) (pa_cons (pv 4) pa_nil)))))))))
    (pss_one (ps_ret (pe_revL (pv 2))))))))), ?_⟩
  refine ⟨_, rfl, n, rfl, by omega, by omega, ?_⟩
  refine ⟨_, rfl, _, rfl, n, e, rfl, by omega, by omega, ?_⟩
  have two : 2 ≤ sizeLine := by decide
  refine ⟨Nat.zero_le _, fun sb nsb => ?_⟩
  have z1 := same_upd (o := .lst []) nsb
  refine ⟨_, rfl, two, fun t0 n0 => ?_⟩
  have z2 := same_upd (o := .tup [.int 0, .int (n : Int)]) n0
  refine ⟨fun mu σ H' => ∃ (b : Nat) (nv : V) (v4 v5 : Option V) (xs : List V) (done : List (Nat × Nat)), σ = [some (.int n), some (.int e), some (.ref sb), some nv, v4, v5] ∧ Same H H' ∧ H' sb = some (.lst xs) ∧ All2 (Nd H') xs done ∧
      Nd H' nv (b, b + mu) ∧ 1 ≤ mu ∧ b ≤ e ∧ e < b + mu ∧ b + mu ≤ n ∧ tree n b mu ∧ done ++ sib b mu e = sib 0 n e,
    ⟨n, 0, .ref t0, none, none, [], [], rfl, z1.trans z2, z2 _ _ upd_same, .nil, ⟨t0, rfl, by rw [upd_same]; simp⟩, by omega, by omega, by omega, by omega, tree_root n, rfl⟩, ?_⟩
  rintro m σ H1 ⟨b, nv, v4, v5, xs, done, rfl, sm, hs, hx, hv, hm, hb, hb2, hn, ht, hd⟩
  refine ⟨_, rfl, _, rfl, _, rfl, _, _, rfl, rfl, two, fun t nt => ?_⟩
  have s1 := same_upd (o := .tup [.int (e : Int), .int ((e : Int) + 1)]) nt
  refine ⟨_, _, (hv.same s1).dp, .tup (SqT.of upd_same) (.cons (.int _) (.cons (.int _) .nil)), nd_shaped _ _, nd_shaped _ _, ?_⟩
  rw [nd_eqv]
  have hlen : done.length ≤ 100 := by
    have k1 := sib_len_le n 0 e (Nat.zero_le _) (by omega)
    have k2 := lb100 h30
    have k3 := congrArg List.length hd
    rw [List.length_append] at k3
    omega
  have hs1 : (upd H1 t (.tup [.int (e : Int), .int ((e : Int) + 1)])) sb = some (.lst xs) := s1 _ _ hs
  have hx1 := hx.mono (fun v x (k : Nd H1 v x) => k.same s1)
  have hv1 := hv.same s1
  have sm1 := sm.trans s1
  generalize upd H1 t (.tup [.int (e : Int), .int ((e : Int) + 1)]) = H2 at hs1 hx1 hv1 sm1
  by_cases h1 : m = 1
  · refine ⟨false, ?_, iteF ?_⟩
    · subst h1
      have : b = e := by omega
      subst this
      simp
    · subst h1
      rw [sib_one (by omega), List.append_nil] at hd
      refine ⟨_, rfl, sb, xs, rfl, SqL.of hs1, fun p np => ?_⟩
      have s3 := same_upd (o := .lst xs.reverse) np
      refine q _ p xs.reverse (sm1.trans s3) (sm1.free np) upd_same ?_
      rw [← hd]
      exact (hx1.mono (fun v x (k : Nd H2 v x) => k.same s3)).rev
  · refine ⟨true, ?_, iteT ⟨fun σ' H' => ∃ mu, mu < m ∧ ∃ (b : Nat) (nv : V) (v4 v5 : Option V) (xs : List V) (done : List (Nat × Nat)), σ' = [some (.int n), some (.int e), some (.ref sb), some nv, v4, v5] ∧ Same H H' ∧ H' sb = some (.lst xs) ∧ All2 (Nd H') xs done ∧
      Nd H' nv (b, b + mu) ∧ 1 ≤ mu ∧ b ≤ e ∧ e < b + mu ∧ b + mu ≤ n ∧ tree n b mu ∧ done ++ sib b mu e = sib 0 n e, fun σ' H' h => h, ?_⟩⟩
    · refine congrArg V.bl ?_
      rw [Bool.not_eq_true', Bool.and_eq_false_iff]
      by_cases c : b = e
      · right
        exact decide_eq_false (by show ¬ ((b + m : Nat) : Int) = (e : Int) + 1; omega)
      · left
        exact decide_eq_false (by show ¬ (b : Int) = (e : Int); omega)
    have hm2 : 2 ≤ m := by omega
    have gl := gp_lt hm2
    have gg := gp_pos m
    refine ⟨_, rfl, _, rfl, n, b, m, nv, rfl, hv1, hm2, hn, h30, ht, fun H3 qa l h s3 nqa hqa hl hh => ?_⟩
    refine ⟨qa, _, rfl, SqT.of hqa, rfl, _, _, rfl, _, _, rfl, rfl, ?_⟩
    obtain ⟨lp, rfl, hlp⟩ := id hl
    refine ⟨_, rfl, _, rfl, lp, _, _, _, rfl, rfl, SqT.of hlp, (atI_nat (j := 1) rfl), _, _, rfl, rfl, _, rfl, ite2 (fun c => ?_) (fun c => ?_)⟩
    · have c1 : (e : Int) < ((b + gp m : Nat) : Int) := of_decide_eq_true c
      have hs3 := s3 _ _ hs1
      refine ⟨_, rfl, ?_⟩
      refine ⟨_, rfl, .inl ⟨rfl, _, SqL.of hs3⟩, _, rfl, sb, _, _, rfl, rfl, hs3, szlt (by rw [hx.len]; omega), ?_⟩
      refine ⟨gp m, gl, b, _, _, _, xs ++ [h], done ++ [(b + gp m, b + m)], rfl, ?_, upd_same, ?_, hl.upd hs3, by omega, hb, by omega, by omega, tree_low hm2 ht, ?_⟩
      · exact fun a o k => by rw [upd_ne (ne_of_none k nsb)]; exact s3 _ _ (sm1 _ _ k)
      · exact (hx1.mono (fun v x (k : Nd H2 v x) => (k.same s3).upd hs3)).app (.cons (hh.upd hs3) .nil)
      · rw [sib_low hm2 (by omega)] at hd
        rw [← hd, List.append_assoc]
        rfl
    · have c1 : ¬ (e : Int) < ((b + gp m : Nat) : Int) := of_decide_eq_false (Bool.eq_false_iff.mpr c)
      have hs3 := s3 _ _ hs1
      refine ⟨_, rfl, ?_⟩
      refine ⟨_, rfl, .inl ⟨rfl, _, SqL.of hs3⟩, _, rfl, sb, _, _, rfl, rfl, hs3, szlt (by rw [hx.len]; omega), ?_⟩
      have e5 : b + gp m + (m - gp m) = b + m := by omega
      refine ⟨m - gp m, by omega, b + gp m, _, _, _, xs ++ [.ref lp], done ++ [(b, b + gp m)], rfl, ?_, upd_same, ?_, by rw [e5]; exact hh.upd hs3, by omega, by omega, by omega, by omega, tree_high hm2 ht, ?_⟩
      · exact fun a o k => by rw [upd_ne (ne_of_none k nsb)]; exact s3 _ _ (sm1 _ _ k)
      · exact (hx1.mono (fun v x (k : Nd H2 v x) => (k.same s3).upd hs3)).app (.cons (hl.upd hs3) .nil)
      · rw [sib_high hm2 (by omega)] at hd
        rw [← hd, List.append_assoc]
        rfl
def spDepth : Sp := fun vs H Q _ => ∃ (n e : Nat), vs = [.int n, .int e] ∧ e < n ∧ n ≤ 10 ^ 30 ∧ ∀ (H' : Hp), Same H H' → Q (.int (((sib 0 n e).length : Nat) : Int)) H'
theorem ok_depth {f g1 : Addr} {fd d1 : FuncData} (F : Fun K "depth" "depth" sDepth f fd) (GPath : FnOk P w K mg base CX0 6 g1 d1 ["size", "entry"] spPath) (APath : At K mg "path" g1 d1 ["size", "entry"]) (z_len : mg "len" = none) :
    FnOk P w K mg base CX0 7 f fd ["size", "entry"] spDepth := by
  refine F.ok scDepth (fun vs H Q E h => ?_) (fun cdv A outer s H vs Q E hr h => ?_)
  · obtain ⟨_, _, rfl, _⟩ := h
    rfl
  obtain ⟨n, e, rfl, he, h30, q⟩ := h
  refine ⟨_, (pss_one (ps_ret (pe_callB call_len_seq (by rfl) z_len PySem.boot_len (pa_cons (pe_call GPath (hr.mono (by decide)) rfl APath.m APath.kp APath.b .nil pass0 (pa_cons (pv 0) (pa_cons (pv 1) pa_nil))) pa_nil)))), ?_⟩
  refine ⟨_, rfl, _, rfl, n, e, rfl, he, h30, fun H' p xs sm np hp hx => ⟨p, xs, rfl, .inl (SqL.of hp), ?_⟩⟩
  have k := hx.len
  rw [List.length_reverse] at k
  rw [k]
  exact q H' sm
end
end LT

namespace LT
open PySem PySem.Spec PyProof.Rows L2
theorem endR_big {e i : Nat} (h : e < 2 ^ i) : endR e i = 2 ^ i := by
  unfold endR
  rw [Nat.mod_eq_of_lt h]
  omega
section
variable {P : Program} {w : World} {K : PySem.W.Frag} {mg : Str → Option Value} {base : Heap}
def spSizesWith : Sp := fun vs H Q _ => ∃ (e n : Nat) (k : Int), vs = [.int e, .int k, .int n] ∧ e < 10 ^ 30 ∧ 1 ≤ n ∧ n ≤ 10 ^ 30 ∧
  (∀ (H' : Hp) (p : Addr), Same H H' → H p = none → H' p = some (.lst []) → (∀ s, e < s → s ≤ n → (((sib 0 s e).length : Nat) : Int) ≠ k) → Q (.ref p) H') ∧
  (∀ (H' : Hp) (p : Addr) (u : V) (f l : Nat), Same H H' → H p = none → H' p = some (.lst [u]) → Nd H' u (f, min l n) → e < f → f ≤ l → f ≤ n → (∀ s, e < s → ((((sib 0 s e).length : Nat) : Int) = k ↔ f ≤ s ∧ s ≤ l)) → Q (.ref p) H')
theorem ok_sizes_with {f g1 g2 g3 g4 g5 : Addr} {fd d1 d2 d3 d4 d5 : FuncData} {tm : Tok} (F : Fun K "sizes_with" "sizes_with" sSizesWith f fd)
    (GCheckEntry : FnOk P w K mg base CX0 3 g1 d1 ["size", "entry"] spCheckEntry) (ACheckEntry : At K mg "check_entry" g1 d1 ["size", "entry"])
    (GCheckNumber : FnOk P w K mg base CX0 2 g2 d2 ["number"] spCheckNumber) (ACheckNumber : At K mg "check_number" g2 d2 ["number"])
    (GCheckSize : FnOk P w K mg base CX0 3 g3 d3 ["size"] spCheckSize) (ACheckSize : At K mg "check_size" g3 d3 ["size"])
    (GDepth : FnOk P w K mg base CX0 7 g4 d4 ["size", "entry"] spDepth) (ADepth : At K mg "depth" g4 d4 ["size", "entry"])
    (GNextEnd : FnOk P w K mg base CX0 1 g5 d5 ["entry", "end"] spNextEnd) (ANextEnd : At K mg "_next_end" g5 d5 ["entry", "end"])
    (g_MOST_ENTRIES : mg "MOST_ENTRIES" = some (.int 1000000000000000000000000000000 tm)) (z_min : mg "min" = none) : FnOk P w K mg base CX0 8 f fd ["entry", "number", "most"] spSizesWith := by
  refine F.ok scSizesWith (fun vs H Q E h => ?_) (fun cdv A outer s H vs Q E hr h => ?_)
  · obtain ⟨_, _, _, rfl, _⟩ := h
    rfl
  obtain ⟨e, n, k, rfl, he, n1, h30, q0, q1⟩ := h
  have two : 2 ≤ sizeLine := by decide
  refine ⟨_, (pss_cons (ps_expr (pe_call GCheckEntry (hr.mono (by decide)) rfl ACheckEntry.m ACheckEntry.kp ACheckEntry.b .nil pass0 (pa_cons (pe_glob (v := .int 1000000000000000000000000000000) rfl g_MOST_ENTRIES ⟨_, rfl⟩) (pa_cons (pv 0) pa_nil))))
    (pss_cons (ps_expr (pe_call GCheckNumber (hr.mono (by decide)) rfl ACheckNumber.m ACheckNumber.kp ACheckNumber.b .nil pass0 (pa_cons (pv 1) pa_nil)))
    (pss_cons (ps_expr (pe_call GCheckSize (hr.mono (by decide)) rfl ACheckSize.m ACheckSize.kp ACheckSize.b .nil pass0 (pa_cons (pv 2) pa_nil)))
    (pss_cons (ps_asg2 (pe_op op_add (pv 0) pe_int) (pg_name (i := 3) scSizesWith.nd rfl (Or.inl rfl)) (pg_name (i := 4) scSizesWith.nd rfl (Or.inl rfl)))
    (pss_cons (ps_set (i := 5) scSizesWith.nd rfl (Or.inl rfl) (pe_call GDepth (hr.mono (by decide)) rfl ADepth.m ADepth.kp ADepth.b .nil pass0 (pa_cons (pv 3) (pa_cons (pv 0) pa_nil))))
    (pss_cons (ps_while PassesOwn.never (PW.pt (pw_and (pt_cmpR op_lt (pv 5) (pv 1) (nomark _)) (pw_and1 (pt_cmpR op_le (pv 3) (pv 2) (nomark _)))))
    (pss_cons (ps_set (i := 3) scSizesWith.nd rfl (Or.inl rfl) (pe_op op_add (pv 4) pe_int))
    (pss_cons (ps_set (i := 4) scSizesWith.nd rfl (Or.inl rfl) (pe_call GNextEnd (hr.mono (by decide)) rfl ANextEnd.m ANextEnd.kp ANextEnd.b .nil pass0 (pa_cons (pv 0) (pa_cons (pv 4) pa_nil))))
    (pss_one (ps_aug (i := 5) scSizesWith.nd rfl (Or.inl rfl) pe_int ip_add)))))
    (pss_cons (ps_if (PW.pt (pw_or (pt_cmpR op_ne (pv 5) (pv 1) (nomark _)) (pw_or1 (pt_cmpR op_gt (pv 3) (pv 2) (nomark _)))))
    (pss_one (ps_ret (pe_lst pa_nil)))
    pss_nil)
    (pss_one (ps_ret (pe_lst (pa_cons (pe_tup (pa_cons (pv 3) (pa_cons (pe_callB (call_min2 rfl) (by rfl) z_min (by decide +kernel) (pa_cons (pv 4) (pa_cons (pv 2) pa_nil))) pa_nil))) pa_nil))))))))))), ?_⟩
  refine ⟨_, rfl, 1000000000000000000000000000000, (e : Int), rfl, by omega, by omega, ?_⟩
  refine ⟨_, rfl, k, rfl, ?_⟩
  refine ⟨_, rfl, (n : Int), rfl, by omega, by omega, ?_⟩
  refine ⟨_, rfl, _, _, rfl, rfl, ?_⟩
  refine ⟨_, rfl, _, rfl, e + 1, e, rfl, by omega, by omega, fun H1 s1 => ?_⟩
  refine ⟨fun mu σ H' => ∃ f l d : Nat, σ = [some (.int (e : Int)), some (.int k), some (.int (n : Int)), some (.int (f : Int)), some (.int (l : Int)), some (.int (d : Int))] ∧ Same H H' ∧ e < f ∧ f ≤ l ∧ (∃ j, l = endR e j) ∧ (∀ s, f ≤ s → s ≤ l → (sib 0 s e).length = d) ∧ (∀ s, e < s → s < f → (sib 0 s e).length < d) ∧ (f ≤ 2 ^ 100 → l ≤ 2 ^ 100) ∧ l ≤ 2 ^ 101 ∧ ((d : Int) ≤ k ∨ f = e + 1) ∧ mu = n + 1 - f + 0,
    ⟨n + 1 - (e + 1), e + 1, e + 1, (sib 0 (e + 1) e).length, rfl, s1, by omega, Nat.le_refl _, ⟨0, by unfold endR; simp [Nat.mod_one]⟩, fun s a b => by rw [show s = e + 1 by omega], fun s a b => by omega, fun z => z, by omega, .inr rfl, rfl⟩, ?_⟩
  rintro mu σ H2 ⟨f, l, d, rfl, s2, hf, hl, ⟨j, hj⟩, hin, hlow, h100, h101, hd, hmu⟩
  have after : ∀ s, l < s → d < (sib 0 s e).length := fun s z => by
    have b1 := sib_behind e j
    rw [← hj] at b1
    have b2 := sib_grows (e := e) (s := l + 1) (by omega) (s - (l + 1))
    rw [show l + 1 + (s - (l + 1)) = s by omega] at b2
    have b3 := hin l hl (Nat.le_refl _)
    omega
  have done : ¬ ((d : Int) < k ∧ f ≤ n) → ((d : Int) ≠ k ∨ n < f) → ∀ s, e < s → s ≤ n → (((sib 0 s e).length : Nat) : Int) ≠ k := fun z1 z2 s a b y => by
    by_cases c : f ≤ s
    · have c2 : ¬ (d : Int) < k := fun w => z1 ⟨w, by omega⟩
      have c3 : d ≤ (sib 0 s e).length := by
        by_cases w : s ≤ l
        · rw [hin s c w]; exact Nat.le_refl _
        · exact Nat.le_of_lt (after s (by omega))
      rcases z2 with z2 | z2
      · omega
      · omega
    · have c2 := hlow s a (by omega)
      rcases hd with w | w
      · omega
      · omega
  have ret0 : ∀ {H3 : Hp} {p : Addr}, Same H2 H3 → H2 p = none → H3 p = some (.lst []) → ¬ ((d : Int) < k ∧ f ≤ n) → ((d : Int) ≠ k ∨ n < f) → Q (.ref p) H3 := fun s3 np hp z1 z2 => q0 _ _ (s2.trans s3) (s2.free np) hp (done z1 z2)
  refine ⟨_, rfl, _, rfl, _, _, rfl, rfl, _, rfl, ite2 (fun c => ?_) (fun c => ?_)⟩
  · have c1 : (d : Int) < k := of_decide_eq_true c
    refine ⟨_, rfl, _, rfl, _, _, rfl, rfl, _, rfl, ite2 (fun c => ?_) (fun c => ?_)⟩
    · have c2 : (f : Int) ≤ (n : Int) := of_decide_eq_true c
      have l100 := h100 (by omega)
      refine ⟨_, fun σ' H' h => h, _, rfl, _, _, rfl, rfl, _, rfl, _, rfl, e, l, rfl, by omega, fun j' b1 b2 _ => ?_⟩
      have big0 := endR_big (e := e) (i := 100) (by omega)
      have big1 := endR_big (e := e) (i := 101) (by omega)
      have ef : (l : Int) + 1 = ((l + 1 : Nat) : Int) := rfl
      have ed : (d : Int) + 1 = ((d + 1 : Nat) : Int) := rfl
      refine ⟨_, rfl, _, _, rfl, rfl, n + 1 - (l + 1) + 0, by omega, l + 1, endR e j', d + 1, rfl, s2, by omega, by omega, ⟨j', rfl⟩, fun s a b => ?_, fun s a b => ?_, fun z => ?_, ?_, .inl (by omega), rfl⟩
      · have fl := sib_flat (e := e) (s := l + 1) (by omega) (s - (l + 1)) (fun t t1 t2 i ti => by
          by_cases ij : i < j'
          · have := b2 i ij
            omega
          · have := endR_mono e (show j' ≤ i by omega)
            omega)
        rw [show l + 1 + (s - (l + 1)) = s by omega] at fl
        have b3 := sib_behind e j
        rw [← hj] at b3
        have b4 := hin l hl (Nat.le_refl _)
        omega
      · by_cases sf : s < f
        · have := hlow s a sf
          omega
        · have := hin s (by omega) (by omega)
          omega
      · have j1 : j' ≤ 100 := by
          by_cases w : 100 < j'
          · have := b2 100 w
            omega
          · omega
        have := endR_mono e j1
        omega
      · have j1 : j' ≤ 101 := by
          by_cases w : 101 < j'
          · have := b2 101 w
            omega
          · omega
        have := endR_mono e j1
        omega
    · have c2 : ¬ (f : Int) ≤ (n : Int) := of_decide_eq_false (Bool.eq_false_iff.mpr c)
      refine ⟨_, rfl, _, rfl, rfl, _, rfl, ite2 (fun c => ?_) (fun c => ?_)⟩
      · exact ⟨by decide, fun p np => ret0 (same_upd np) np upd_same (fun z => by omega) (.inr (by omega))⟩
      · refine ⟨_, rfl, _, rfl, _, _, rfl, rfl, _, rfl, ite2 (fun c => ?_) (fun c => ?_)⟩
        · exact ⟨by decide, fun p np => ret0 (same_upd np) np upd_same (fun z => by omega) (.inr (by omega))⟩
        · have c3 : ¬ (n : Int) < (f : Int) := of_decide_eq_false (Bool.eq_false_iff.mpr c)
          omega
  · have c1 : ¬ (d : Int) < k := of_decide_eq_false (Bool.eq_false_iff.mpr c)
    refine ⟨_, rfl, _, rfl, rfl, _, rfl, ite2 (fun c => ?_) (fun c => ?_)⟩
    · have c2 : (d : Int) ≠ k := fun z => by
        have c' : (!decide (V.int (d : Int) = V.int k)) = true := c
        rw [z, decide_eq_true rfl] at c'
        cases c'
      exact ⟨by decide, fun p np => ret0 (same_upd np) np upd_same (fun z => c1 z.1) (.inl c2)⟩
    · have c2 : (d : Int) = k := by
        by_cases z : (d : Int) = k
        · exact z
        · have c' : ¬ (!decide (V.int (d : Int) = V.int k)) = true := c
          rw [decide_eq_false (fun y => z (V.int.inj y))] at c'
          exact absurd rfl c'
      refine ⟨_, rfl, _, rfl, _, _, rfl, rfl, _, rfl, ite2 (fun c => ?_) (fun c => ?_)⟩
      · have c3 : (n : Int) < (f : Int) := of_decide_eq_true c
        exact ⟨by decide, fun p np => ret0 (same_upd np) np upd_same (fun z => c1 z.1) (.inr (by omega))⟩
      · have c3 : ¬ (n : Int) < (f : Int) := of_decide_eq_false (Bool.eq_false_iff.mpr c)
        refine ⟨_, rfl, _, rfl, _, rfl, _, _, rfl, two, fun t nt => ⟨(by show 1 ≤ sizeLine; decide), fun p np => ?_⟩⟩
        have em : (if (n : Int) < (l : Int) then (n : Int) else (l : Int)) = ((min l n : Nat) : Int) := by split <;> omega
        refine q1 _ p (.ref t) f l (s2.trans ((same_upd nt).trans (same_upd np))) (s2.free ((same_upd nt).free np)) upd_same ⟨t, rfl, ?_⟩ hf hl (by omega) (fun s a => ?_)
        · rw [← em]
          exact same_upd np _ _ upd_same
        · constructor
          · intro y
            by_cases z1 : s < f
            · have := hlow s a z1
              omega
            · by_cases z2 : s ≤ l
              · exact ⟨by omega, z2⟩
              · have := after s (by omega)
                omega
          · rintro ⟨y1, y2⟩
            rw [hin s y1 y2]
            exact c2
end
end LT

namespace LT
open PySem PySem.Spec PyProof.Rows L2
section
variable {P : Program} {w : World} {K : PySem.W.Frag} {mg : Str → Option Value} {base : Heap}
def spBag : Sp := fun vs H Q _ => ∃ c : Int, vs = [.int c] ∧ ∀ (H' : Hp) (p : Addr), Same H H' → H p = none → BagAt H' p → Q (.ref p) H'
theorem ok_law_bag {f : Addr} {fd : FuncData} (F : Fun K "_law_bag" "_law_bag" sLawBag f fd) (z_max : mg "max" = none) : FnOk P w K mg base CX0 1 f fd ["cell"] spBag := by
  refine F.ok scLawBag (fun vs H Q E h => ?_) (fun cdv A outer s H vs Q E hr h => ?_)
  · obtain ⟨_, rfl, _⟩ := h
    rfl
  obtain ⟨c, rfl, q⟩ := h
  refine ⟨_, (pss_one (ps_ret (pe_lst (pa_cons (pe_callB (call_max2 rfl) (by rfl) z_max (by decide +kernel) (pa_cons pe_int (pa_cons (pe_op op_sub (pv 0) (pe_op op_pow pe_int pe_int)) pa_nil))) (pa_cons (pv 0) (pa_cons pe_int pa_nil)))))), ?_⟩
  refine ⟨_, rfl, _, _, rfl, rfl, ⟨by decide, by decide, by decide⟩, _, _, rfl, rfl, _, _, rfl, _, rfl, (by show 3 ≤ sizeLine; decide), fun p np => ?_⟩
  exact q _ p (same_upd np) np ⟨_, _, _, upd_same⟩
theorem fm0 (x : Int) {m : Int} (h : 0 < m) : 0 ≤ x.fmod m := by
  rw [Int.fmod_eq_emod_of_nonneg _ (by omega)]
  exact Int.emod_nonneg _ (by omega)
theorem fm1 (x : Int) {m : Int} (h : 0 < m) : x.fmod m < m := by
  rw [Int.fmod_eq_emod_of_nonneg _ (by omega)]
  exact Int.emod_lt_of_pos _ h
def spPick : Sp := fun vs H Q _ => ∃ (b : Addr) (many : Int), vs = [.ref b, .int many] ∧ 0 < many ∧ many.natAbs < 2 ^ 250 ∧ BagAt H b ∧
  ∀ (r : Int) (H' : Hp), 0 ≤ r → r < many → (∀ a, a ≠ b → H' a = H a) → BagAt H' b → Q (.int r) H'
theorem ok_law_pick {f : Addr} {fd : FuncData} (F : Fun K "_law_pick" "_law_pick" sLawPick f fd) (z_int : mg "int" = none) : FnOk P w K mg base CX0 1 f fd ["bag", "many"] spPick := by
  refine F.ok scLawPick (fun vs H Q E h => ?_) (fun cdv A outer s H vs Q E hr h => ?_)
  · obtain ⟨_, _, rfl, _⟩ := h
    rfl
  obtain ⟨b, many, rfl, hm, hm2, ⟨x, y, z, h0⟩, q⟩ := h
  refine ⟨_, (pss_cons (ps_asg (pe_op op_add (pe_ix ix_list (pv 0) pe_int (fun _ _ => rfl)) pe_int) (pg_sub (pv 0) pe_int set_list))
    (pss_cons (ps_if (pt_cmpR op_gt (pe_ix ix_list (pv 0) pe_int (fun _ _ => rfl)) pe_int (nomark _))
    (pss_cons (ps_set (i := 2) scLawPick.nd rfl (Or.inl rfl) (pe_op op_modN (pe_callTy call_int1 (by rfl) z_int (by decide +kernel) (pa_cons (pe_ix ix_list (pv 0) pe_int (fun _ _ => rfl)) pa_nil)) (pv 1)))
    (pss_cons (ps_asg (pe_op op_fdivW (pe_callTy call_int1 (by rfl) z_int (by decide +kernel) (pa_cons (pe_ix ix_list (pv 0) pe_int (fun _ _ => rfl)) pa_nil)) (pv 1)) (pg_sub (pv 0) pe_int set_list))
    (pss_one (ps_ret (pv 2)))))
    pss_nil)
    (pss_cons (ps_par (i := 3) (j := 4) (by rfl) scLawPick.nd rfl rfl (by decide) rfl rfl (pa_cons (pe_callTy call_int1 (by rfl) z_int (by decide +kernel) (pa_cons (pe_ix ix_list (pv 0) pe_int (fun _ _ => rfl)) pa_nil)) (pa_cons (pe_callTy call_int1 (by rfl) z_int (by decide +kernel) (pa_cons (pe_ix ix_list (pv 0) pe_int (fun _ _ => rfl)) pa_nil)) pa_nil)) (by rfl))
    (pss_cons (ps_set (i := 5) scLawPick.nd rfl (Or.inl rfl) (pe_op op_modN (pe_callTy call_int1 (by rfl) z_int (by decide +kernel) (pa_cons (pe_op op_add (pe_op op_add (pe_op op_mul (pe_op op_modN (pv 3) pe_int) pe_int) (pe_op op_mul (pv 4) pe_int)) pe_int) pa_nil)) pe_int))
    (pss_cons (ps_set (i := 6) scLawPick.nd rfl (Or.inl rfl) (pe_op op_modN (pe_callTy call_int1 (by rfl) z_int (by decide +kernel) (pa_cons (pe_op op_add (pe_op op_mul (pv 5) (pv 5)) (pe_op op_mul (pv 4) pe_int)) pa_nil)) pe_int))
    (pss_cons (ps_set (i := 7) scLawPick.nd rfl (Or.inl rfl) (pe_op op_fdivW (pe_callTy call_int1 (by rfl) z_int (by decide +kernel) (pa_cons (pe_op op_add (pe_op op_mul (pv 5) pe_int) (pv 6)) pa_nil)) pe_int))
    (pss_cons (ps_if (pt_cmpR op_gt (pv 1) (pe_op op_pow pe_int pe_int) (nomark _))
    (pss_one (ps_set (i := 7) scLawPick.nd rfl (Or.inl rfl) (pe_op op_add (pe_op op_pow (pv 7) pe_int) (pv 6))))
    pss_nil)
    (pss_one (ps_ret (pe_op op_modN (pe_callTy call_int1 (by rfl) z_int (by decide +kernel) (pa_cons (pv 7) pa_nil)) (pv 1))))))))))), ?_⟩
  refine ⟨_, rfl, b, _, _, _, rfl, rfl, SqL.of h0, atI_nat (j := 2) rfl, _, _, rfl, rfl, _, rfl, b, _, _, 2, rfl, rfl, h0, rfl, ?_⟩
  dsimp only
  have h1 : (upd H b (.lst ([.int x, .int y, .int z].set 2 (.int (z + 1))))) b = some (.lst [.int x, .int y, .int (z + 1)]) := upd_same
  have k1 : ∀ a, a ≠ b → (upd H b (.lst ([.int x, .int y, .int z].set 2 (.int (z + 1))))) a = H a := fun a ha => upd_ne ha
  generalize upd H b (.lst ([.int x, .int y, .int z].set 2 (.int (z + 1)))) = H1 at h1 k1
  refine ⟨_, rfl, b, _, _, _, rfl, rfl, SqL.of h1, atI_nat (j := 0) rfl, _, _, rfl, rfl, _, rfl, ite2 (fun c => ?_) (fun c => ?_)⟩
  · refine ⟨_, rfl, b, _, _, _, rfl, rfl, SqL.of h1, atI_nat (j := 0) rfl, .inl ⟨_, rfl, _, rfl, _, _, rfl, rfl, by omega, ?_⟩⟩
    refine ⟨_, rfl, b, _, _, _, rfl, rfl, SqL.of h1, atI_nat (j := 0) rfl, .inl ⟨_, rfl, _, rfl, _, _, rfl, rfl, wide_div hm hm2 (by decide) (by decide), _, rfl, b, _, _, 0, rfl, rfl, h1, rfl, ?_⟩⟩
    refine ⟨_, rfl, ?_⟩
    exact q _ _ (fm0 x hm) (fm1 x hm) (fun a ha => by rw [upd_ne ha]; exact k1 a ha) ⟨_, _, _, upd_same⟩
  · refine ⟨_, rfl, b, _, _, _, rfl, rfl, SqL.of h1, atI_nat (j := 1) rfl, .inl ⟨_, rfl, _, rfl, b, _, _, _, rfl, rfl, SqL.of h1, atI_nat (j := 2) rfl, .inl ⟨_, rfl, _, _, rfl, ?_⟩⟩⟩
    refine ⟨_, rfl, _, _, rfl, rfl, (by show (2147483629 : Int) ≠ 0; decide), _, _, rfl, rfl, .inr ⟨by decide, by decide⟩, _, rfl, _, _, rfl, rfl, .inr ⟨by decide, by decide⟩, _, _, rfl, rfl, _, _, rfl, rfl, .inl ⟨_, rfl, _, _, rfl, rfl, (by show (2147483647 : Int) ≠ 0; decide), ?_⟩⟩
    dsimp only
    have a0 := fm0 (y.fmod 2147483629 * 48271 + (z + 1) * 69621 + 12345) (m := 2147483647) (by decide)
    have a1 := fm1 (y.fmod 2147483629 * 48271 + (z + 1) * 69621 + 12345) (m := 2147483647) (by decide)
    generalize (y.fmod 2147483629 * 48271 + (z + 1) * 69621 + 12345).fmod 2147483647 = fi at a0 a1
    refine ⟨_, rfl, _, rfl, _, _, rfl, rfl, .inl ⟨by omega, by omega⟩, _, rfl, _, _, rfl, rfl, .inr ⟨by decide, by decide⟩, _, _, rfl, rfl, .inl ⟨_, rfl, _, _, rfl, rfl, (by show (2147483587 : Int) ≠ 0; decide), ?_⟩⟩
    dsimp only
    have b0 := fm0 (fi * fi + (z + 1) * 40692) (m := 2147483587) (by decide)
    have b1 := fm1 (fi * fi + (z + 1) * 40692) (m := 2147483587) (by decide)
    generalize (fi * fi + (z + 1) * 40692).fmod 2147483587 = se at b0 b1
    refine ⟨_, rfl, _, _, rfl, rfl, .inl ⟨by omega, by omega⟩, _, rfl, _, _, rfl, rfl, .inl ⟨_, rfl, _, _, rfl, rfl, wide_div (b := 6) (by decide) (by decide) (by decide) (by decide), ?_⟩⟩
    dsimp only
    have c0 : 0 ≤ (fi * 2147483587 + se) / 32 := by omega
    have c1 : (fi * 2147483587 + se) / 32 < 2 ^ 62 := by omega
    generalize (fi * 2147483587 + se) / 32 = dr at c0 c1
    refine ⟨_, rfl, _, _, rfl, rfl, ⟨by decide, by decide, by decide⟩, _, _, rfl, rfl, _, rfl, ite2 (fun c => ?_) (fun c => ?_)⟩
    · refine ⟨_, rfl, _, _, rfl, rfl, ⟨by decide, by decide, by omega⟩, _, rfl, _, _, rfl, rfl, ?_⟩
      refine ⟨_, rfl, .inl ⟨_, rfl, _, rfl, _, _, rfl, rfl, by omega, ?_⟩⟩
      exact q _ _ (fm0 _ hm) (fm1 _ hm) k1 ⟨_, _, _, h1⟩
    · refine ⟨_, rfl, .inl ⟨_, rfl, _, rfl, _, _, rfl, rfl, by omega, ?_⟩⟩
      exact q _ _ (fm0 _ hm) (fm1 _ hm) k1 ⟨_, _, _, h1⟩
end
end LT

namespace LT
open PySem PySem.Spec PyProof.Rows L2
section
variable {P : Program} {w : World} {K : PySem.W.Frag} {mg : Str → Option Value} {base : Heap}
/-! ### walking an enumerate -/
theorem for_enum {a : Addr} {xs : List V} {g : TG} {tb : TS} {D : Ends} {σ : L2.St} {H : Hp} (Pv : Nat → L2.St → Hp → Prop) (h0 : Pv 0 σ H) (hl : ∀ i σ H, i ≤ xs.length → Pv i σ H → SqL K H a xs)
    (hs : ∀ i x σ H T, xs[i]? = some x → Pv i σ H → H T = none → g (.ref T) σ (upd H T (.tup [.int (i : Nat), x])) fun σ2 H2 => tb { D with nx := Pv (i + 1), ct := Pv (i + 1), bk := D.nx } σ2 H2) (hd : ∀ σ H, Pv xs.length σ H → D.nx σ H) :
    ∃ W : Nat → Nat → L2.St → Hp → Prop, (∃ m, W 0 m σ H) ∧ ∀ i m σ H, W i m σ H →
      ((Ite K a).stop i H ∧ D.nx σ H) ∨ ((Ite K a).go i H ∧ ∃ N : L2.St → Hp → Prop, (∀ σ' H', N σ' H' → ∃ m', m' < m ∧ W (i + 1) m' σ' H') ∧ ∀ x H', (Ite K a).yld i H x H' → g x σ H' fun σ2 H2 => tb { D with nx := N, ct := N, bk := D.nx } σ2 H2) := by
  refine ⟨fun i m σ H => m = xs.length - i ∧ i ≤ xs.length ∧ Pv i σ H, ⟨xs.length, by simp, Nat.zero_le _, h0⟩, ?_⟩
  rintro i m σ H ⟨rfl, hi, p⟩
  have q := hl i σ H hi p
  by_cases hlt : i < xs.length
  · refine .inr ⟨⟨xs, xs[i], q, by simp [hlt]⟩, Pv (i + 1), fun σ' H' p' => ⟨xs.length - (i + 1), by omega, rfl, hlt, p'⟩, fun x H' y => ?_⟩
    obtain ⟨T, x1, rfl, nT, rfl, f⟩ := y
    exact hs i x1 σ H T (f xs q) p nT
  · have e : i = xs.length := by omega
    subst e
    exact .inl ⟨⟨xs, q, Nat.le_refl _⟩, hd σ H p⟩
end
end LT

namespace LT
open PySem PySem.Spec PyProof.Rows L2
section
variable {P : Program} {w : World} {K : PySem.W.Frag} {mg : Str → Option Value} {base : Heap}
def spPeaks : Sp := fun vs H Q _ => ∃ (n : Nat), vs = [.int n] ∧ ∀ (H' : Hp) (p : Addr) (xs : List V), Same H H' → H p = none → H' p = some (.lst xs) → All2 (Nd H') xs ((pk 101 n 0).map full) → Q (.ref p) H'
theorem shr_bit (n j : Nat) : Builtin.bitAnd ((n : Int) / 2 ^ j) 1 = if n.testBit j then 1 else 0 := by
  have e : (n : Int) / 2 ^ j = ((n / 2 ^ j : Nat) : Int) := by
    rw [← PySem.W.kbt_cast]
    exact (Int.natCast_ediv n (2 ^ j)).symm
  rw [e, bitAnd_m1, Nat.testBit_eq_decide_div_mod_eq]
  have h : n / 2 ^ j % 2 = 0 ∨ n / 2 ^ j % 2 = 1 := by omega
  rcases h with h | h
  · rw [h, if_neg (by decide)]; omega
  · rw [h, if_pos (by decide)]; omega
theorem ok_law_peaks {f : Addr} {fd : FuncData} (F : Fun K "_law_peaks" "_law_peaks" sLawPeaks f fd) (z_range : mg "range" = none) : FnOk P w K mg base CX0 1 f fd ["size"] spPeaks := by
  refine F.ok scLawPeaks (fun vs H Q E h => ?_) (fun cdv A outer s H vs Q E hr h => ?_)
  · obtain ⟨_, rfl, _⟩ := h
    rfl
  obtain ⟨n, rfl, q⟩ := h
  refine ⟨_, (pss_cons (ps_par (i := 1) (j := 2) (by rfl) scLawPeaks.nd rfl rfl (by decide) rfl rfl (pa_cons (pe_lst pa_nil) (pa_cons pe_int pa_nil)) (by rfl))
    (pss_cons (ps_for PassesOwn.never rfl (pi_range3 (by rfl) z_range (pa_cons pe_int (pa_cons (pe_un un_neg pe_int) (pa_cons (pe_un un_neg pe_int) pa_nil)))) (pg_name (i := 3) scLawPeaks.nd rfl (Or.inl rfl))
    (pss_one (ps_if (pt_cmpR op_eq (pe_op op_and (pe_op op_shr (pv 0) (pv 3)) pe_int) pe_int (nomark _))
    (pss_cons (ps_expr (pe_bm PySem.F.plainAttrs_list PySem.F.slot_list_append PySem.F.type_list_append mt_append (pv 1) (pa_cons (pe_tup (pa_cons (pv 2) (pa_cons (pe_op op_add (pv 2) (pe_op op_shl pe_int (pv 3))) pa_nil))) pa_nil)))
    (pss_one (ps_set (i := 2) scLawPeaks.nd rfl (Or.inl rfl) (pe_op op_add (pv 2) (pe_op op_shl pe_int (pv 3))))))
    pss_nil)))
    (pss_one (ps_ret (pv 1))))), ?_⟩
  refine ⟨Nat.zero_le _, fun fa nf => ?_⟩
  refine ⟨_, _, rfl, ?_⟩
  refine ⟨_, rfl, _, rfl, 100, -1, -1, 101, rfl, (show RgC 100 (-1) (-1) 101 from RgC.neg (by decide) (by decide) (by decide) (by decide)), ?_⟩
  refine for_rangeC (lo := 100) (c := -1) (n := 101) (fun i σ H' => ∃ (b : Nat) (v3 : Option V) (xs : List V) (done : List (Nat × Nat)), σ = [some (.int n), some (.ref fa), some (.int b), v3] ∧ Same H H' ∧ H' fa = some (.lst xs) ∧ All2 (Nd H') xs (done.map full) ∧ done ++ pk (101 - i) n b = pk 101 n 0)
    ⟨0, none, [], [], rfl, same_upd nf, upd_same, .nil, rfl⟩ ?_ ?_
  · rintro i σ H1 hi ⟨b, v3, xs, done, rfl, sm, hf, hx, hd⟩
    have ej : (100 : Int) + (i : Int) * (-1) = ((100 - i : Nat) : Int) := by omega
    have ei : 101 - i = (100 - i) + 1 := by omega
    rw [ej]
    rw [ei] at hd
    have ei2 : 101 - (i + 1) = 100 - i := by omega
    have hj : 100 - i ≤ 100 := by omega
    generalize 100 - i = j at hd ei2 hj
    refine ⟨_, rfl, _, rfl, _, _, rfl, rfl, Int.natCast_nonneg _, _, _, rfl, rfl, rfl, _, rfl, ite2 (fun c => ?_) (fun c => ?_)⟩
    · have c1 : V.int (Builtin.bitAnd ((n : Int) / 2 ^ ((j : Nat) : Int).toNat) 1) = V.int 1 := of_decide_eq_true c
      have c2 := V.int.inj c1
      rw [Int.toNat_natCast, shr_bit] at c2
      have tb : n.testBit j = true := by
        by_cases t : n.testBit j = true
        · exact t
        · rw [if_neg t] at c2; exact absurd c2 (by decide)
      have two : 2 ≤ sizeLine := by decide
      have dl : done.length ≤ 101 := by
        have k1 := congrArg List.length hd
        rw [List.length_append] at k1
        have k2 := pk_len 101 n 0
        omega
      have ep : (1 : Int) * 2 ^ ((j : Nat) : Int).toNat = ((2 ^ j : Nat) : Int) := by rw [Int.one_mul, Int.toNat_natCast]; exact (Int.natCast_pow 2 j).symm
      refine ⟨_, rfl, .inl ⟨rfl, _, SqL.of hf⟩, _, rfl, _, rfl, _, rfl, _, _, rfl, rfl, ⟨Int.natCast_nonneg _, by omega, by decide⟩, _, _, rfl, rfl, two, fun t nt => ?_⟩
      dsimp only
      rw [ep]
      have s1 := same_upd (o := .tup [.int (b : Int), .int ((b : Int) + ((2 ^ j : Nat) : Int))]) nt
      have hf1 := s1 _ _ hf
      refine ⟨fa, _, _, rfl, rfl, hf1, szlt (by rw [hx.len, List.length_map]; omega), ?_⟩
      refine ⟨_, rfl, _, rfl, _, _, rfl, rfl, ⟨Int.natCast_nonneg _, by omega, by decide⟩, _, _, rfl, rfl, ?_⟩
      dsimp only
      rw [ep]
      refine ⟨b + 2 ^ j, _, xs ++ [.ref t], done ++ [(b, j)], rfl, ?_, upd_same, ?_, ?_⟩
      · exact fun a o k => by rw [upd_ne (ne_of_none k nf)]; exact s1 _ _ (sm _ _ k)
      · rw [List.map_append]
        refine (hx.mono (fun v x (k : Nd H1 v x) => (k.same s1).upd hf1)).app (.cons ?_ .nil)
        exact Nd.upd (x := full (b, j)) ⟨t, rfl, upd_same⟩ hf1
      · rw [ei2, ← hd, List.append_assoc]
        show _ = done ++ (if n.testBit j = true then (b, j) :: pk j n (b + 2 ^ j) else pk j n b)
        rw [if_pos tb]
        rfl
    · have c1 : ¬ V.int (Builtin.bitAnd ((n : Int) / 2 ^ ((j : Nat) : Int).toNat) 1) = V.int 1 := of_decide_eq_false (Bool.eq_false_iff.mpr c)
      rw [Int.toNat_natCast, shr_bit] at c1
      have t : ¬ n.testBit j = true := fun t => c1 (by rw [if_pos t])
      refine ⟨b, _, xs, done, rfl, sm, hf, hx, ?_⟩
      rw [ei2, ← hd]
      show _ = done ++ (if n.testBit j = true then (b, j) :: pk j n (b + 2 ^ j) else pk j n b)
      rw [if_neg t]
  · rintro σ H1 ⟨b, v3, xs, done, rfl, sm, hf, hx, hd⟩
    have e : pk (101 - 101) n b = [] := rfl
    rw [e, List.append_nil] at hd
    rw [hd] at hx
    exact ⟨_, rfl, q H1 fa xs sm nf hf hx⟩
end
end LT

namespace LT
open PySem PySem.Spec PyProof.Rows L2
/-- three ints -/
def Tr (H : Hp) (v : V) (x : Nat × Nat × Nat) : Prop := ∃ p, v = .ref p ∧ H p = some (.tup [.int x.1, .int x.2.1, .int x.2.2])
theorem Tr.same {H H' : Hp} {v : V} {x : Nat × Nat × Nat} (h : Tr H v x) (s : Same H H') : Tr H' v x := by
  obtain ⟨p, e, q⟩ := h
  exact ⟨p, e, s _ _ q⟩
theorem Tr.upd {H : Hp} {v : V} {x : Nat × Nat × Nat} {s : Addr} {xs : List V} {o : HO} (h : Tr H v x) (hs : H s = some (.lst xs)) : Tr (upd H s o) v x := by
  obtain ⟨p, e, q⟩ := h
  exact ⟨p, e, by rw [upd_ne (ne_of q hs (by intro z; cases z))]; exact q⟩
theorem lev_len (t : Nat) : ∀ (l : List (Nat × Nat)) (s : Nat), (lev t s l).length = l.length
  | [], _ => rfl
  | x :: r, s => by
    show (lev t (s + 1) r).length + 1 = r.length + 1
    rw [lev_len t r (s + 1)]
theorem lev_app (t : Nat) : ∀ (l r : List (Nat × Nat)) (s : Nat), lev t s (l ++ r) = lev t s l ++ lev t (s + l.length) r
  | [], r, s => rfl
  | x :: l, r, s => by
    show _ :: lev t (s + 1) (l ++ r) = _ :: (lev t (s + 1) l ++ lev t (s + (l.length + 1)) r)
    rw [lev_app t l r (s + 1), show s + 1 + l.length = s + (l.length + 1) by omega]
end LT

namespace LT
open PySem PySem.Spec PyProof.Rows L2
section
variable {P : Program} {w : World} {K : PySem.W.Frag} {mg : Str → Option Value} {base : Heap}
/-- range(h + 1) as far as i turns have come -/
def upto (h i : Nat) : List Int := (List.range (min i (h + 1))).map fun j => ((j : Nat) : Int)
theorem upto_more {h i : Nat} (k : i ≤ h) : upto h (i + 1) = upto h i ++ [(i : Int)] := by
  unfold upto
  rw [Nat.min_eq_left (by omega), Nat.min_eq_left (by omega), List.range_succ, List.map_append]
  rfl
theorem upto_same {h i : Nat} (k : ¬ i ≤ h) : upto h (i + 1) = upto h i := by
  unfold upto
  rw [Nat.min_eq_right (by omega), Nat.min_eq_right (by omega)]
theorem upto_len (h i : Nat) : (upto h i).length ≤ i := by
  unfold upto
  rw [List.length_map, List.length_range]
  exact Nat.min_le_left _ _
theorem shr_pow {h j : Nat} (b : Nat) : decide ((((b + 2 ^ h : Nat) : Int) - (b : Int)) / 2 ^ ((j : Nat) : Int).toNat > 0) = decide (j ≤ h) := by
  have e : ((b + 2 ^ h : Nat) : Int) - (b : Int) = ((2 ^ h : Nat) : Int) := by omega
  rw [e, Int.toNat_natCast, ← PySem.W.kbt_cast j]
  have e2 : ((2 ^ h : Nat) : Int) / ((2 ^ j : Nat) : Int) = ((2 ^ h / 2 ^ j : Nat) : Int) := (Int.natCast_ediv _ _).symm
  rw [e2]
  by_cases k : j ≤ h
  · rw [decide_eq_true k]
    have := Nat.div_pos (Nat.pow_le_pow_right (by decide : 0 < 2) k) (Nat.pow_pos (a := 2) (n := j) (by decide))
    exact decide_eq_true (by omega)
  · rw [decide_eq_false k]
    have : 2 ^ h / 2 ^ j = 0 := Nat.div_eq_of_lt (Nat.pow_lt_pow_right (by decide) (by omega))
    exact decide_eq_false (by omega)
def spLevels : Sp := fun vs H Q _ => ∃ (n : Nat), vs = [.int n] ∧ ∀ (H' : Hp) (p : Addr) (xs : List V), Same H H' → H p = none → H' p = some (.lst xs) → All2 (Tr H') xs (lev (pk 101 n 0).length 0 (pk 101 n 0)) → Q (.ref p) H'
theorem ok_law_levels {f g1 : Addr} {fd d1 : FuncData} (F : Fun K "_law_levels" "_law_levels" sLawLevels f fd) (GLawPeaks : FnOk P w K mg base CX0 1 g1 d1 ["size"] spPeaks) (ALawPeaks : At K mg "_law_peaks" g1 d1 ["size"])
    (z_max : mg "max" = none) (z_min : mg "min" = none) (z_range : mg "range" = none) (z_enumerate : mg "enumerate" = none) (z_len : mg "len" = none) :
    FnOk P w K mg base CX0 2 f fd ["size"] spLevels := by
  refine F.ok scLawLevels (fun vs H Q E h => ?_) (fun cdv A outer s H vs Q E hr h => ?_)
  · obtain ⟨_, rfl, _⟩ := h
    rfl
  obtain ⟨n, rfl, q⟩ := h
  refine ⟨_, (pss_cons (ps_set (i := 1) scLawLevels.nd rfl (Or.inl rfl) (pe_call GLawPeaks (hr.mono (by decide)) rfl ALawPeaks.m ALawPeaks.kp ALawPeaks.b .nil pass0 (pa_cons (pv 0) pa_nil)))
    (pss_cons (ps_set (i := 2) scLawLevels.nd rfl (Or.inl rfl) (pe_lst pa_nil))
    (pss_cons (ps_for PassesOwn.never rfl (pi_enum (by rfl) z_enumerate (pa_cons (pv 1) pa_nil)) (pg_tup (by rfl) (pgs_cons (pg_name (i := 3) scLawLevels.nd rfl (Or.inl rfl)) (pgs_cons (pg_tup (by rfl) (pgs_cons (pg_name (i := 4) scLawLevels.nd rfl (Or.inr rfl)) (pgs_cons (pg_name (i := 5) scLawLevels.nd rfl (Or.inr rfl)) pgs_nil))) pgs_nil)))
    (pss_cons (ps_set (i := 6) scLawLevels.nd rfl (Or.inl rfl) (pe_callB (cr_max rfl) (by rfl) z_max (by decide +kernel) (pa_cons (pe_lc (own := [("bit", 7)]) rfl scLawLevels.nd (pi_range1 (by rfl) z_range (pa_cons pe_int pa_nil)) (blkOk_by (N := ["size", "told", "found", "spot", "begin", "end", "height", "bit"]) (sc := defScope sLawLevels) (by decide +kernel)) (fun _ _ _ _ _ => (pg_name (i := 7) scLawLevels.nd rfl (Or.inl rfl))) (fun _ _ _ _ _ => pts_one (pt_cmpR op_gt (pe_op op_shr (pe_op op_sub (pv 5) (pv 4)) (pv 7)) pe_int (nomark _))) (fun _ _ _ _ _ => (pv 7))) pa_nil)))
    (pss_one (ps_expr (pe_bm PySem.F.plainAttrs_list PySem.F.slot_list_append PySem.F.type_list_append mt_append (pv 2) (pa_cons (pe_tup (pa_cons (pv 4) (pa_cons (pv 5) (pa_cons (pe_op op_add (pv 6) (pe_callB (call_min2 rfl) (by rfl) z_min (by decide +kernel) (pa_cons (pe_op op_add (pv 3) pe_int) (pa_cons (pe_op op_sub (pe_callB call_len_seq (by rfl) z_len PySem.boot_len (pa_cons (pv 1) pa_nil)) pe_int) pa_nil)))) pa_nil)))) pa_nil))))))
    (pss_one (ps_ret (pv 2)))))), ?_⟩
  refine ⟨_, rfl, n, rfl, fun H1 pa xs sm0 npa hpa hxs => ?_⟩
  refine ⟨Nat.zero_le _, fun fa nf => ?_⟩
  have nf0 : H fa = none := sm0.free nf
  have sf := same_upd (o := .lst []) nf
  have hfp : pa ≠ fa := ne_of_none hpa nf
  refine ⟨_, rfl, pa, xs, rfl, sf.seq (SqL.of hpa), ?_⟩
  have L101 := pk_len 101 n 0
  have pkb : ∀ x ∈ pk 101 n 0, x.2 ≤ 100 := fun x hx => by have := (pk_begin 101 n 0 x hx).2; omega
  generalize pk 101 n 0 = L at q hxs L101 pkb
  refine for_enum (a := pa) (xs := xs) (fun i σ H' => ∃ (v3 v4 v5 v6 : Option V) (ys : List V), σ = [some (.int n), some (.ref pa), some (.ref fa), v3, v4, v5, v6, none] ∧ Same H1 H' ∧ H' fa = some (.lst ys) ∧ All2 (Tr H') ys (lev L.length 0 (L.take i)))
    ⟨none, none, none, none, [], rfl, sf, upd_same, .nil⟩ (fun i σ H' _ ⟨_, _, _, _, _, _, sm, _⟩ => SqL.of (sm _ _ hpa)) ?_ ?_
  · rintro i x σ H2 T hi ⟨v3, v4, v5, v6, ys, rfl, sm, hf, hy⟩ nT
    obtain ⟨⟨b, h⟩, hbh, hnd⟩ : ∃ y : Nat × Nat, L[i]? = some y ∧ Nd H1 x (full y) := by
      obtain ⟨y, e1, e2⟩ := hxs.nth hi
      rw [List.getElem?_map] at e1
      cases e3 : L[i]? with
      | none => rw [e3] at e1; cases e1
      | some z => rw [e3] at e1; exact ⟨z, rfl, by rw [show full z = y from Option.some.inj e1]; exact e2⟩
    have hh : h ≤ 100 := pkb _ (List.mem_of_getElem? hbh)
    obtain ⟨p, rfl, hp⟩ := hnd
    have sT := same_upd (o := .tup [.int ((i : Nat) : Int), .ref p]) nT
    refine ⟨T, _, rfl, SqT.of upd_same, rfl, _, _, rfl, _, _, rfl, p, _, rfl, SqT.of (sT _ _ (sm _ _ hp)), rfl, _, _, rfl, _, _, rfl, rfl, rfl, ?_⟩
    have hpa3 := sT _ _ (sm _ _ hpa)
    have hf3 := sT _ _ hf
    have hy3 := hy.mono (fun v x (k : Tr H2 v x) => k.same sT)
    have sm3 := sm.trans sT
    generalize upd H2 T (.tup [.int ((i : Nat) : Int), .ref p]) = H3 at hpa3 hf3 hy3 sm3
    -- height
    refine ⟨101, rfl, by decide, by decide, fun D nD => lc_range (lo := 0) (n := 101) (fun i H' => Same H3 H' ∧ H' D = some (.lst ((upto h i).map V.int))) ⟨same_upd nD, upd_same⟩ ?_ ?_⟩
    · rintro j H4 hj ⟨sm4, hD⟩
      have ej : (0 : Int) + (j : Int) = (j : Int) := by omega
      rw [ej]
      refine ⟨rfl, ?_⟩
      refine ⟨_, rfl, _, rfl, _, _, rfl, rfl, _, rfl, _, _, rfl, rfl, Int.natCast_nonneg _, _, _, rfl, rfl, decide (j ≤ h), congrArg V.bl (shr_pow b), ite2 (fun c => ?_) (fun c => ?_)⟩
      · have c1 : j ≤ h := of_decide_eq_true c
        refine ⟨_, rfl, _, hD, szlt (by rw [List.length_map]; have := upto_len h j; omega), ?_, ?_⟩
        · exact fun a o k => by rw [upd_ne (ne_of_none k nD)]; exact sm4 _ _ k
        · rw [upto_more c1, List.map_append]
          exact upd_same
      · have c1 : ¬ j ≤ h := of_decide_eq_false (Bool.eq_false_iff.mpr c)
        refine ⟨sm4, ?_⟩
        rw [upto_same c1]
        exact hD
    rintro H4 ⟨sm4, hD⟩
    refine ⟨D, upto h 101, rfl, SqL.of hD, ?_, fun m hm hmax => ?_⟩
    · unfold upto
      rw [List.length_map, List.length_range]
      omega
    have em : m = (h : Int) := by
      unfold upto at hm hmax
      rw [Nat.min_eq_right (by omega)] at hm hmax
      obtain ⟨k, k1, k2⟩ := List.mem_map.mp hm
      have k3 := List.mem_range.mp k1
      have k4 := hmax (h : Int) (List.mem_map.mpr ⟨h, List.mem_range.mpr (by omega), rfl⟩)
      omega
    subst em
    have hpa4 := sm4 _ _ hpa3
    have hf4 := sm4 _ _ hf3
    have xl : xs.length = L.length := by rw [hxs.len, List.length_map]
    have il : i < L.length := (List.getElem?_eq_some_iff.mp hbh).1
    refine ⟨_, rfl, .inl ⟨rfl, _, SqL.of hf4⟩, _, rfl, _, rfl, _, rfl, _, rfl, _, _, rfl, rfl, _, rfl, pa, _, rfl, .inl (SqL.of hpa4), _, _, rfl, rfl, _, _, rfl, _, _, rfl, rfl, (by show 3 ≤ sizeLine; decide), fun t nt => ?_⟩
    have e8 : (h : Int) + (if ((xs.length : Nat) : Int) - 1 < (i : Int) + 1 then ((xs.length : Nat) : Int) - 1 else (i : Int) + 1) = ((h + min (i + 1) (L.length - 1) : Nat) : Int) := by
      rw [xl]
      split <;> omega
    dsimp only
    rw [e8]
    have st := same_upd (o := .tup [.int (b : Int), .int ((b + 2 ^ h : Nat) : Int), .int ((h + min (i + 1) (L.length - 1) : Nat) : Int)]) nt
    have hf5 := st _ _ hf4
    have hlen : (lev L.length 0 (L.take i)).length ≤ 101 := by rw [lev_len, List.length_take]; omega
    refine ⟨fa, _, _, rfl, rfl, hf5, szlt (by rw [hy.len]; omega), ?_⟩
    refine ⟨_, _, _, _, ys ++ [.ref t], rfl, ?_, upd_same, ?_⟩
    · exact fun a o k => by rw [upd_ne (ne_of_none k nf)]; exact st _ _ (sm4 _ _ (sm3 _ _ k))
    · rw [take_more hbh, lev_app]
      refine (hy3.mono (fun v x (k : Tr H3 v x) => ((k.same sm4).same st).upd hf5)).app (.cons ?_ .nil)
      have e9 : 0 + (L.take i).length = i := by rw [List.length_take]; omega
      rw [e9]
      exact Tr.upd (x := (b, b + 2 ^ h, h + min (i + 1) (L.length - 1))) ⟨t, rfl, upd_same⟩ hf5
  · rintro σ H2 ⟨v3, v4, v5, v6, ys, rfl, sm, hf, hy⟩
    have e : L.take xs.length = L := List.take_of_length_le (by rw [hxs.len, List.length_map]; exact Nat.le_refl _)
    rw [e] at hy
    exact ⟨_, rfl, q H2 fa ys (sm0.trans sm) nf0 hf hy⟩
end
end LT

namespace LT
open PySem PySem.Spec PyProof.Rows L2
def dp (n e : Nat) : Nat := (sib 0 n e).length
theorem due_dp {n e : Nat} (h : e < n) (h2 : n < 2 ^ 101) : due e (lev (pk 101 n 0).length 0 (pk 101 n 0)) = [dp n e] := by
  have nm : n % 2 ^ 101 = n := Nat.mod_eq_of_lt h2
  have := due_is n e 101 0 0 (Nat.zero_le _) (by rw [nm]; omega)
  rw [nm, Nat.zero_add, Nat.zero_min, Nat.add_zero] at this
  exact this
section
variable {P : Program} {w : World} {K : PySem.W.Frag} {mg : Str → Option Value} {base : Heap}
def spLawDepth : Sp := fun vs H Q _ => ∃ (n e : Nat), vs = [.int n, .int e] ∧ e < n ∧ n < 2 ^ 101 ∧ ∀ (H' : Hp), Same H H' → Q (.int ((dp n e : Nat) : Int)) H'
theorem ok_law_depth {f g1 : Addr} {fd d1 : FuncData} (F : Fun K "_law_depth" "_law_depth" sLawDepth f fd) (GLawLevels : FnOk P w K mg base CX0 2 g1 d1 ["size"] spLevels) (ALawLevels : At K mg "_law_levels" g1 d1 ["size"]) : FnOk P w K mg base CX0 3 f fd ["size", "entry"] spLawDepth := by
  refine F.ok scLawDepth (fun vs H Q E h => ?_) (fun cdv A outer s H vs Q E hr h => ?_)
  · obtain ⟨_, _, rfl, _⟩ := h
    rfl
  obtain ⟨n, e, rfl, he, hn, q⟩ := h
  refine ⟨_, (pss_one (ps_ret (pe_ix ix_list (pe_lc (own := [("begin", 2), ("end", 3), ("number", 4)]) rfl scLawDepth.nd (pi_list (pe_call GLawLevels (hr.mono (by decide)) rfl ALawLevels.m ALawLevels.kp ALawLevels.b .nil pass0 (pa_cons (pv 0) pa_nil))) (blkOk_by (N := ["size", "entry", "begin", "end", "number"]) (sc := defScope sLawDepth) (by decide +kernel)) (fun _ _ _ _ _ => (pg_tupB (n := 3) rfl (pgs_cons (pg_name (i := 2) scLawDepth.nd rfl (Or.inl rfl)) (pgs_cons (pg_name (i := 3) scLawDepth.nd rfl (Or.inl rfl)) (pgs_cons (pg_name (i := 4) scLawDepth.nd rfl (Or.inl rfl)) pgs_nil))))) (fun _ _ _ _ _ => pts_one (pt_chain op_le op_lt (pv 2) (pv 1) (pv 3))) (fun _ _ _ _ _ => (pv 4))) pe_int (fun _ _ => rfl)))), ?_⟩
  refine ⟨_, rfl, n, rfl, fun H2 l ls s2 _ hl hls => ?_⟩
  have T101 : (lev (pk 101 n 0).length 0 (pk 101 n 0)).length ≤ 101 := by rw [lev_len]; exact pk_len 101 n 0
  have hdue := due_dp he hn
  generalize lev (pk 101 n 0).length 0 (pk 101 n 0) = T at hls T101 hdue
  refine ⟨l, rfl, ⟨_, SqL.of hl⟩, fun D nD => lc_list (xs := ls) (fun i H' => Same H2 H' ∧ H' D = some (.lst ((due e (T.take i)).map fun (x : Nat) => V.int (x : Int)))) ⟨same_upd nD, upd_same⟩ (fun i H' _ k => SqL.of (k.1 _ _ hl)) ?_ ?_⟩
  · rintro i x H3 hi ⟨s3, hD⟩
    obtain ⟨y, hy, hty⟩ := hls.nth hi
    obtain ⟨xp, rfl, hxp⟩ := hty.same s3
    have il : i < T.length := (List.getElem?_eq_some_iff.mp hy).1
    have hdl : (due e (T.take i)).length ≤ 101 := by
      unfold due
      rw [List.length_map]
      refine Nat.le_trans (List.length_filter_le _ _) ?_
      rw [List.length_take]; omega
    have et : due e (T.take (i + 1)) = due e (T.take i) ++ (if (decide (y.1 ≤ e) && decide (e < y.2.1)) = true then [y.2.2] else []) := by
      rw [take_more hy]
      unfold due
      rw [List.filter_append, List.map_append, List.filter_cons, List.filter_nil]
      split <;> rfl
    refine ⟨xp, _, rfl, SqT.of hxp, rfl, _, _, rfl, _, _, rfl, _, _, rfl, rfl, ?_⟩
    refine ⟨rfl, ?_⟩
    refine ⟨_, rfl, _, rfl, _, _, rfl, rfl, _, rfl, ite2 (fun c => ?_) (fun c => ?_)⟩
    · have c1 : (y.1 : Int) ≤ (e : Int) := of_decide_eq_true c
      refine ⟨_, rfl, _, _, rfl, rfl, _, rfl, ite2 (fun c => ?_) (fun c => ?_)⟩
      · have c2 : (e : Int) < (y.2.1 : Int) := of_decide_eq_true c
        refine ⟨_, rfl, _, hD, szlt (by rw [List.length_map]; omega), ?_, ?_⟩
        · exact fun a o k => by rw [upd_ne (ne_of_none k nD)]; exact s3 _ _ k
        · rw [et, if_pos (by rw [Bool.and_eq_true]; exact ⟨decide_eq_true (by omega), decide_eq_true (by omega)⟩), List.map_append]
          exact upd_same
      · have c2 : ¬ (e : Int) < (y.2.1 : Int) := of_decide_eq_false (Bool.eq_false_iff.mpr c)
        refine ⟨s3, ?_⟩
        rw [et, if_neg (by rw [Bool.and_eq_true]; intro z; exact c2 (by have := of_decide_eq_true z.2; omega)), List.append_nil]
        exact hD
    · have c1 : ¬ (y.1 : Int) ≤ (e : Int) := of_decide_eq_false (Bool.eq_false_iff.mpr c)
      refine ⟨false, rfl, iteF ?_⟩
      refine ⟨s3, ?_⟩
      rw [et, if_neg (by rw [Bool.and_eq_true]; intro z; exact c1 (by have := of_decide_eq_true z.1; omega)), List.append_nil]
      exact hD
  rintro H3 ⟨s3, hD⟩
  rw [hls.len, List.take_length, hdue] at hD
  exact ⟨D, _, _, _, rfl, rfl, SqL.of hD, atI_nat (j := 0) rfl, q H3 (s2.trans s3)⟩
end
end LT

namespace LT
open PySem PySem.Spec PyProof.Rows L2
/-! ### promises of defs that show things: what is being shown around them is told to be nothing -/
structure GOk (P : Program) (w : World) (K : PySem.W.Frag) (mg : Str → Option Value) (base : Heap) (k : Nat) (f : Addr) (fd : FuncData) (ps : List Str) (sp : Sp) : Prop where
  len : ∀ vs H Q E, sp vs H Q E → vs.length = ps.length
  run : ∀ (A : Around) (outer : List Env) (s : Shared) (H : Hp) (args : Args) (us : List Value) (vs : List V) (Q : VK), A.guards = some [] → Room k A → Env0 P w K mg base A outer s H → BindsTo s fd args (ps.zip us) → Vals vs us → sp vs H Q E0 →
    codeAny (model P w) A (.call (.ref f) args) (CR CX0 outer P w H s Q E0) s
section
variable {P : Program} {w : World} {K : PySem.W.Frag} {mg : Str → Option Value} {base : Heap} {k : Nat} {f : Addr} {fd : FuncData} {ps : List Str} {sp : Sp}
theorem GOk.of (F : FnOk P w K mg base CX0 k f fd ps sp) : GOk P w K mg base k f fd ps sp := by
  refine ⟨F.len, ?_⟩
  intro A outer s H args us vs Q _
  exact F.run A outer s H args us vs Q E0
theorem GOk.mono {j : Nat} (F : GOk P w K mg base j f fd ps sp) (h : j ≤ k) : GOk P w K mg base k f fd ps sp := by
  refine ⟨F.len, ?_⟩
  intro A outer s H args us vs Q hg hr
  exact F.run A outer s H args us vs Q hg (hr.mono h)
/-- a def by its body, as Fun.ok -/
theorem okG {x qual : Str} {st : Stmt} {N : List Str} (F : Fun K x qual st f fd) (S : FnScope N ps (defScope st)) (len : ∀ vs H Q E, sp vs H Q E → vs.length = ps.length)
    (body : ∀ (cdv : Value) (A : Around) (outer : List Env) (s : Shared) (H : Hp) (vs : List V) (Q : VK), A.guards = some [] → Room k (A.deeper (envOfC qual (defScope st) s.heap.objs.size f cdv)) → sp vs H Q E0 →
      ∃ t, PSs (cxOf CX0 P w K mg base N qual (defScope st) f cdv A outer s H E0).nox (defBody st) t ∧ t { nx := fun _ H' => Q .non H', rt := Q } (start N vs) H) : GOk P w K mg base (k + 1) f fd ps sp := by
  obtain ⟨oc, od, kV, doc, pm, an, cdv, ct, osl, e, lk, hcd⟩ := F.ex
  subst e
  refine ⟨len, ?_⟩
  intro A outer s H args us vs Q hg hr ev hb rv hsp
  have nvs := len _ _ _ _ hsp
  have there : K.In s.heap := ev.mod.kin.keeps (fun b o q => (ev.bs b o q).1)
  have noLim : s.heap.NoLimit := ev.mod.nolimit.keeps (fun b o q => (ev.bs b o q).1)
  have kinds : ∀ y ∈ ps.zip us, (defScope st).names.lookup y.1 = some .local ∨ ((defScope st).names.lookup y.1 = some .cell ∧ ((cellsFrom (s.heap.objs.size + 1) (defScope st).names []).lookup y.1).isSome = true) := by
    intro y hy
    rcases S.par y.1 (List.of_mem_zip hy).1 with q | q
    · exact Or.inl q
    · exact Or.inr ⟨q, PySem.W.cellsFrom_some _ _ _ (Or.inl q)⟩
  apply codeAny_call_function hr.depth (there _ _ lk) rfl S.co S.gen rfl (PySem.W.codeRec_of there hcd)
  apply hb
  apply wpAny_newFunctionEnv_cells S.kind kinds
  intro env he s1 made
  subst he
  refine ⟨noLim.keeps made.toInCall.keep, codeAny_func ?_⟩
  obtain ⟨t, ht, hq⟩ := body cdv A outer s H vs Q hg (hr.deeper _) hsp
  have I : Inv (cxOf CX0 P w K mg base N qual (defScope st) f cdv A outer s H E0) [] (start N vs) H s1 := inv_start S hr.hd ev nvs rv made
  have ran := ht.nox.run [] s1 (start N vs) H _ I hq
  apply wpAny_mono ran
  · intro fl s' hs
    have fin : ∀ {σ' : L2.St} {H' : Hp} {v : V} {u : Value}, Inv (cxOf CX0 P w K mg base N qual (defScope st) f cdv A outer s H E0) [] σ' H' s' → RelV v u → Q v H' → CE outer P w H s Q u s' := by
      intro σ' H' v u J r q
      exact ⟨v, H', J.os, J.bare, J.base, J.hok, r, q⟩
    match fl, hs with
    | .ret u, ⟨v, σ', H', J, r, q⟩ => exact fin J r q
    | .next, ⟨σ', H', J, q⟩ => exact fin (v := V.non) (u := Value.none) J rfl q
    | .brk, ⟨_, _, _, q⟩ => exact False.elim q
    | .cont, ⟨_, _, _, q⟩ => exact False.elim q
  · intro e s' hs
    exact hs
end
section
variable {X : Cx} {k : Nat} {f : Addr} {fd : FuncData} {ps : List Str} {sp : Sp} {x : Str} {p pos : Pos} {e : Expr} {es : List Expr} {t : TA}
theorem runG {pins : List (Addr × Obj)} {σ : L2.St} {H : Hp} {s : Shared} {Q : VK} {us : List Value} {vs : List V} (F : GOk X.prog X.w X.K X.mg X.base k f fd ps sp) (hg : X.A.guards = some []) (hr : Room k X.A) (hb : Binds X.K fd ps [])
    (I : Inv X pins σ H s) (rv : Vals vs us) (h : sp vs H Q E0) : wpAny (model X.prog X.w) X.A (call (.ref f) us) (EP X pins σ Q) X.xe s := by
  have n : (us ++ []).length = ps.length := by
    rw [List.append_nil, ← rv.length]
    exact F.len _ _ _ _ h
  have b := hb s us I.kIn n
  rw [List.append_nil] at b
  apply wpAny_call
  apply codeAny_mono (F.run X.A X.stack s H ⟨us, []⟩ us vs Q hg hr I.env0 b rv h)
  intro res s' hq
  match res, hq with
  | .error _, hq => exact False.elim hq
  | .ok (.ret u), hq => exact I.after hq
  | .ok .next, hq => exact False.elim hq
  | .ok .brk, hq => exact False.elim hq
  | .ok .cont, hq => exact False.elim hq
theorem pe_callG (F : GOk X.prog X.w X.K X.mg X.base k f fd ps sp) (hgd : X.A.guards = some []) (hr : Room k X.A) (hg : Gl X x) (hm : X.mg x = some (.ref f)) (hk : PySem.W.keepIn X.K (.ref f) = true) (hb : Binds X.K fd ps [])
    (ha : PA X (e :: es) t) (hdb : (x == ("__debug__" : Str)) = false := by decide) (he : starEach (e :: es) X.env = (false, eval e X.env) :: starEach es X.env := by rfl) (hpl : (backTo pos (starEach es X.env)).any (·.1) = false := by rfl) :
    PE X (.Call (.Name x p) (e :: es) [] pos) (tCall sp [] E0 t) := by
  constructor
  intro pins s σ H Q I h
  apply wpAny_Call_Name_kw
  refine ld_glob I hg hm ?_ hdb
  apply PySem.W.callWith_K (h₀ := X.base) I.ok.mod.kin hk _ he hpl
  apply thn (ha.run pos pins s σ H _ I h)
  intro us s1 hh
  obtain ⟨vs, H1, I1, rv, q⟩ := hh
  rw [List.append_nil] at q
  exact ⟨I1.kIn, runG F hgd hr hb I1 rv q⟩
/-- repr of lists and tuples of plain data -/
theorem call_repr (hg : X.A.guards = some []) (hu : X.A.units + 65 < cLine) :
    CallR X (.builtin "repr") (fun xs H Q => ∃ y d, xs = [y] ∧ Dp X.K H y d ∧ PyProof.Rows.isDisplay d = true ∧ SeqAt.shaped d = true ∧ d.showable = true ∧ d.shown.length ≤ sizeLine ∧ Q (.str d.shown) H) := by
  intro pins s σ H xs us Q I r h
  obtain ⟨y, d, rfl, hd, hi, hsh, hs, hl, q⟩ := h
  obtain ⟨u, rfl, r1⟩ := vals1 r
  obtain ⟨as, r2⟩ := Dp.reads I d y u hd r1
  obtain ⟨a, rfl⟩ := PyProof.Rows.isRef_of_reads r2 hi
  have dp := SeqAt.depth_of_shaped hsh
  refine repr_of_reads' r2 hs (PyData.noDict_hsm (PyData.hasDict_of_canLay d (SeqAt.canLay_of_shaped hsh))) hg (by omega) (fun _ _ q => q) ?_ hl
  intro h' u tk kept
  exact ⟨.str d.shown, H, I.kept kept, ⟨_, rfl⟩, q⟩
theorem call_reprB {s : Shared} {H : Hp} {sc : Scope} {ce : Env} {fp : List Addr} (hg : X.A.guards = some []) (hu : X.A.units + 65 < cLine) :
    CallR (X.blk s H sc ce fp) (.builtin "repr") (fun xs H Q => ∃ y d, xs = [y] ∧ Dp X.K H y d ∧ PyProof.Rows.isDisplay d = true ∧ SeqAt.shaped d = true ∧ d.showable = true ∧ d.shown.length ≤ sizeLine ∧ Q (.str d.shown) H) := call_repr (X := X.blk s H sc ce fp) hg hu
end
end LT

namespace LT
open PySem PySem.Spec PyProof.Rows L2
section
variable {P : Program} {w : World} {K : PySem.W.Frag} {mg mb : Str → Option Value} {k : Nat} {fa a : Addr} {fd : FuncData} {x : Str} {sp : Sp} {s₁ : Shared} {vs : List Value} {ns : List Int}
/-- what is told of the heap ahead of the law's call: the script alone, where it is no object of the top -/
def told (K : PySem.W.Frag) (a : Addr) (ob : Obj) (ns : List Int) : Hp := fun b => if b = a ∧ K.lookup a = none then some (.frz ob (.lst (ns.map V.int))) else none
theorem told_at {ob : Obj} {b : Addr} {u : HO} (h : told K a ob ns b = some u) : b = a ∧ K.lookup a = none ∧ u = .frz ob (.lst (ns.map V.int)) := by
  unfold told at h
  by_cases c : b = a ∧ K.lookup a = none
  · rw [if_pos c] at h
    exact ⟨c.1, c.2, (Option.some.inj h).symm⟩
  · rw [if_neg c] at h
    cases h
/-- the law's call, from a promise that asks that nothing is being shown -/
theorem lawG (there : K.In s₁.heap) (globs : s₁.heap.Ns mainGlobals mg) (blts : s₁.heap.Ns builtinsNs mb) (boot : ∀ y : Str, y ≠ "__name__" → mb y = bootBuiltins y) (noLim : s₁.heap.NoLimit) (noGens : s₁.gens = #[])
    (obj : s₁.heap.get? a = some { cls := .type "list", data := .seq vs.toArray }) (areI : IntsAre vs ns) (few : ns.length ≤ sizeLine) (hr : Room k callerA)
    (F : ∀ base : Heap, K.In base → base.Ns mainGlobals mg → GOk P w K mg base k fa fd [x] sp) (binds : ∀ (s : Shared) (u : Value), BindsTo s fd ⟨[u], []⟩ [(x, u)])
    (keeps : ∀ H : Hp, Only H → SqL K H a (ns.map V.int) → sp [.ref a] H (fun v _ => v = .bl true) E0) :
    codeAny (model P w) callerA (.call (.ref fa) ⟨[.ref a], []⟩) (fun r s' => r = .ok (.ret (.bool true)) ∧ OldK s₁.heap s'.heap ∧ s'.os = s₁.os ∧ AllBare s'.gens) s₁ := by
  generalize ho : ({ cls := .type "list", data := .seq vs.toArray } : Obj) = ob at obj
  have items := vals_ints areI
  have only : Only (told K a ob ns) := by
    intro b
    cases q : told K a ob ns b with
    | none => exact Or.inl rfl
    | some u => exact Or.inr ⟨ob, ns.map V.int, by rw [(told_at q).2.2]⟩
  have sq : SqL K (told K a ob ns) a (ns.map V.int) := by
    cases q : K.lookup a with
    | none => exact Or.inl (Or.inr ⟨ob, if_pos ⟨rfl, q⟩⟩)
    | some o =>
      have same : o = ob := Option.some.inj ((there a o q).symm.trans obj)
      subst same
      subst ho
      refine Or.inr ⟨_, vs.toArray, _, q, rfl, rfl, rfl, ?_, by simpa using items⟩
      rw [List.size_toArray, areI.length]
      exact few
  have fits : HOk P w (told K a ob ns) s₁.heap := by
    intro b u q
    obtain ⟨rfl, _, rfl⟩ := told_at q
    subst ho
    exact ⟨obj, by rw [List.length_map]; exact few, vs, _, items, obj⟩
  have behind : ∀ {b : Addr} {o : Obj}, s₁.heap.get? b = some o → told K a ob ns b = none → (hidT s₁.heap (told K a ob ns)).get? b = some o := fun q n => hidT_get q n
  have nsp : ∀ {b : Addr} {m : Str → Option Value}, s₁.heap.Ns b m → (hidT s₁.heap (told K a ob ns)).Ns b m := by
    rintro b m ⟨o, es, ep, q, d, r⟩
    refine ⟨o, es, ep, behind q ?_, d, r⟩
    cases z : told K a ob ns b with
    | none => rfl
    | some u =>
      obtain ⟨rfl, _, _⟩ := told_at z
      rw [obj] at q
      cases q
      subst ho
      cases (show Data.seq vs.toArray _ = Data.dict es ep from d)
  have inB : K.In (hidT s₁.heap (told K a ob ns)) := by
    intro b o q
    refine behind (there b o q) ?_
    cases z : told K a ob ns b with
    | none => rfl
    | some u =>
      obtain ⟨rfl, n, _⟩ := told_at z
      rw [n] at q
      cases q
  have M : Mod K mg (hidT s₁.heap (told K a ob ns)) := by
    obtain ⟨mc, c1, c2⟩ := noLim
    exact ⟨inB, nsp globs, ⟨mb, nsp blts, boot⟩, ⟨mc, nsp c1, c2⟩⟩
  have ev : Env0 P w K mg (hidT s₁.heap (told K a ob ns)) callerA [] s₁ (told K a ob ns) :=
    { frames := rfl, mod := M, bs := fun _ _ q => of_hidT q, bsz := Nat.le_of_eq (hidT_size _ _), funs := trivial, frf := fun b q => absurd (show b ∈ ([] : List Addr) from q) List.not_mem_nil, hok := fits, bare := .of_eq noGens }
  have ran := (F _ inB (nsp globs)).run callerA [] s₁ (told K a ob ns) ⟨[.ref a], []⟩ [.ref a] [.ref a] _ rfl hr ev (binds s₁ (.ref a)) (.cons rfl .nil) (keeps _ only sq)
  apply codeAny_mono ran
  intro res s' h
  match res, h with
  | .error _, h => exact False.elim h
  | .ok .next, h => exact False.elim h
  | .ok .brk, h => exact False.elim h
  | .ok .cont, h => exact False.elim h
  | .ok (.ret u), ⟨v, H', os, bare, un, hok', rv, q⟩ =>
    have qv : v = .bl true := q
    subst qv
    have qu : u = Value.bool true := rv
    subst qu
    refine ⟨rfl, OldK.of_keep ?_, os, bare⟩
    intro b o q1
    cases z : told K a ob ns b with
    | none => exact un.keep b o q1 z (fun m => absurd (show b ∈ ([] : List Addr) from m) List.not_mem_nil) List.not_mem_nil
    | some c =>
      obtain ⟨rfl, n, rfl⟩ := told_at z
      obtain ⟨e1, _⟩ := fits _ _ z
      obtain ⟨e2, _⟩ := hok' _ _ (un.frzs _ _ _ z)
      rw [q1] at e1
      cases e1
      exact e2
end
theorem walkG {l : PySem.W.OpenLaw} {n k : Nat} {q : Program} {loose : List Str} {XP : (Str → Option Value) → Heap → Prop} {YP : World → Heap → Prop} {d : DefRec} {K : Params → PySem.W.Frag} {sp : World → Sp} {x : Str}
    (hn : l.most = some n) (hn2 : n ≤ sizeLine) (hdf : d.params.defaults = []) (hr : Room k callerA) (hY : ∀ (w : World) (h : Heap), YP w h → (K w.params).In h)
    (F : ∀ (w : World) (mg : Str → Option Value) (fa : Addr) (h : Heap), (K w.params).In h → h.Ns mainGlobals mg → mg d.name = some (.ref fa) →
      ∃ fd : FuncData, (∀ (s : Shared) (u : Value), BindsTo s fd ⟨[u], []⟩ [(x, u)]) ∧ ∀ base : Heap, (K w.params).In base → base.Ns mainGlobals mg → GOk l.prog w (K w.params) mg base k fa fd [x] (sp w))
    (keeps : ∀ (w : World) (H : Hp) (a : Addr) (ns : List Int), ns.length ≤ n → Only H → SqL (K w.params) H a (ns.map V.int) → sp w [.ref a] H (fun v _ => v = .bl true) E0) :
    PySem.W.WalkO q loose XP YP l.row.toRowW d [] (fun f vs => PySem.call f vs) := by
  apply Att.attach_call hn hdf
  intro w s₀ s₁ mg mb fa o pm cd doc a vs ns G Y ho hd hcd hmg hobj hints hlen hg
  obtain ⟨fd, hb, hF⟩ := F w mg fa _ (hY w _ Y) G.T.g hmg
  exact lawG (hY w _ Y) G.T.g G.T.b G.T.builtins G.T.nolimit hg hobj hints (Nat.le_trans hlen hn2) hr hF hb (fun H hO hS => keeps w H a ns hlen hO hS)
end LT

namespace LT
open PySem PySem.Spec PyProof.Rows L2
def nd (x : Nat × Nat) : PyData := .tuple [.int x.1, .int x.2]
theorem nds_lay : ∀ l : List (Nat × Nat), PyData.canLayAll0 (l.map nd) = true
  | [] => by simp [PyData.canLayAll0]
  | x :: l => by simp [PyData.canLayAll0, nd, PyData.canLay0, nds_lay l]
theorem nds_depth : ∀ l : List (Nat × Nat), PyData.depthAll (l.map nd) ≤ 2
  | [] => by simp [PyData.depthAll]
  | x :: l => by
    have := nds_depth l
    simp only [List.map_cons, PyData.depthAll, nd, PyData.depth]
    omega
theorem nds_shaped (l : List (Nat × Nat)) : SeqAt.shaped (.list (l.map nd)) = true := by
  have h := nds_depth l
  have h2 : PyData.depth (.list (l.map nd)) ≤ 64 := by
    simp only [PyData.depth]
    omega
  show (PyData.canLay0 (.list (l.map nd)) && decide (PyData.depth (.list (l.map nd)) ≤ 64)) = true
  rw [Bool.and_eq_true]
  exact ⟨by simp only [PyData.canLay0]; exact nds_lay l, decide_eq_true h2⟩
theorem nds_dp {K : PySem.W.Frag} {H : Hp} : ∀ {vs : List V} {l : List (Nat × Nat)}, All2 (Nd H) vs l → DpAll K H vs (l.map nd)
  | _, _, .nil => .nil
  | _, _, .cons h t => .cons h.dp (nds_dp t)
theorem nds_any (l : List (Nat × Nat)) (x : Nat × Nat) : (l.map nd).any (fun z => PyData.eqv z (.tuple [.int x.1, .int x.2])) = decide (x ∈ l) := by
  induction l with
  | nil => simp
  | cons y l ih =>
    rw [List.map_cons, List.any_cons, ih]
    show (PyData.eqv (.tuple [.int y.1, .int y.2]) _ || _) = _
    rw [nd_eqv]
    by_cases c : x = y
    · subst c
      simp
    · have e : (decide ((y.1 : Int) = (x.1 : Int)) && decide ((y.2 : Int) = (x.2 : Int))) = false := by
        rw [Bool.and_eq_false_iff]
        by_cases c1 : y.1 = x.1
        · right
          refine decide_eq_false (fun z => c (Prod.ext c1.symm ?_))
          omega
        · left
          exact decide_eq_false (fun z => c1 (by omega))
      rw [e, Bool.false_or]
      simp [c]
end LT

namespace LT
open PySem PySem.Spec PyProof.Rows L2
/-! ### lists of ints as data -/
theorem ints_lay : ∀ ns : List Int, PyData.canLayAll0 (ns.map PyData.int) = true
  | [] => by simp [PyData.canLayAll0]
  | n :: ns => by simp [PyData.canLayAll0, PyData.canLay0, ints_lay ns]
theorem ints_depth : ∀ ns : List Int, PyData.depthAll (ns.map PyData.int) ≤ 1
  | [] => by simp [PyData.depthAll]
  | n :: ns => by
    have := ints_depth ns
    simp only [List.map_cons, PyData.depthAll, PyData.depth]
    omega
theorem ints_shaped (ns : List Int) : SeqAt.shaped (.list (ns.map PyData.int)) = true := by
  have h := ints_depth ns
  have h2 : PyData.depth (.list (ns.map PyData.int)) ≤ 64 := by
    simp only [PyData.depth]
    omega
  show (PyData.canLay0 (.list (ns.map PyData.int)) && decide (PyData.depth (.list (ns.map PyData.int)) ≤ 64)) = true
  rw [Bool.and_eq_true]
  exact ⟨by simp only [PyData.canLay0]; exact ints_lay ns, decide_eq_true h2⟩
theorem ints_dp {K : PySem.W.Frag} {H : Hp} : ∀ ns : List Int, DpAll K H (ns.map V.int) (ns.map PyData.int)
  | [] => .nil
  | n :: ns => .cons (.int n) (ints_dp ns)
theorem ints_nil : ∀ ns : List Int, PyData.eqv (.list (ns.map PyData.int)) (.list []) = ns.isEmpty
  | [] => by simp only [List.map_nil, PyData.eqv, PyData.eqvAll, List.isEmpty_nil]
  | n :: ns => by simp only [List.map_cons, PyData.eqv, PyData.eqvAll, List.isEmpty_cons]
theorem nil_shaped : SeqAt.shaped (.list []) = true := ints_shaped []
end LT

namespace LT
open PySem PySem.Spec PyProof.Rows L2
/-! ### what is shown fits -/
def small (x : Nat × Nat) : Prop := x.1 ≤ 1000 ∧ x.2 ≤ 1000
theorem int_short {a : Nat} (h : a ≤ 1000000) : (PyData.shown (.int ((a : Nat) : Int))).length ≤ 13 := PyData.shown_int_le (by show a < 10 ^ 12; omega)
theorem int_weight {a : Nat} (h : a ≤ 1000000) : PyData.weight (.int ((a : Nat) : Int)) ≤ 20 := by
  show (if ((a : Nat) : Int) == 0 then 0 else ((a : Nat) : Int).natAbs.log2 + 1) ≤ 20
  split
  · omega
  · rename_i z
    have : ((a : Nat) : Int).natAbs = a := rfl
    rw [this]
    have a0 : a ≠ 0 := fun e => z (by subst e; rfl)
    have := (Nat.log2_lt (k := 20) a0).mpr (by omega)
    omega
theorem nds_short : ∀ l : List (Nat × Nat), (∀ x ∈ l, small x) → PyData.intsShortAll 13 (l.map nd) = true
  | [], _ => rfl
  | x :: l, h => by
    have hx := h x List.mem_cons_self
    simp only [List.map_cons, PyData.intsShortAll, nd, PyData.intsShort, Bool.and_eq_true, decide_eq_true_eq, Bool.and_true]
    exact ⟨⟨int_short (by have := hx.1; omega), int_short (by have := hx.2; omega)⟩, nds_short l fun y hy => h y (List.mem_cons_of_mem _ hy)⟩
theorem nds_weight : ∀ l : List (Nat × Nat), (∀ x ∈ l, small x) → PyData.weightAll (l.map nd) ≤ 43 * l.length
  | [], _ => Nat.le_refl _
  | x :: l, h => by
    have hx := h x List.mem_cons_self
    have ih := nds_weight l fun y hy => h y (List.mem_cons_of_mem _ hy)
    have w1 := int_weight (a := x.1) (by have := hx.1; omega)
    have w2 := int_weight (a := x.2) (by have := hx.2; omega)
    have e : PyData.weightAll ((x :: l).map nd) = (PyData.weight (.int ((x.1 : Nat) : Int)) + 1 + (PyData.weight (.int ((x.2 : Nat) : Int)) + 1 + 0)) + 1 + PyData.weightAll (l.map nd) := by
      simp only [List.map_cons, PyData.weightAll, nd, PyData.weight]
    rw [e, List.length_cons]
    omega
theorem nds_fits (l : List (Nat × Nat)) (h : ∀ x ∈ l, small x) (hl : l.length ≤ 1000) : (PyData.list (l.map nd)).shown.length ≤ sizeLine := by
  have w := nds_weight l h
  refine PyData.shown_fits (B := 13) (by decide) (by decide) (PyData.leavesShort_of_canLay0 13 _ ?_ ?_) ?_
  · simp only [PyData.canLay0]
    exact nds_lay l
  · simp only [PyData.intsShort]
    exact nds_short l h
  · show PyData.weightAll (l.map nd) ≤ 2 ^ 20
    omega
theorem nds_showable : ∀ l : List (Nat × Nat), (∀ x ∈ l, small x) → PyData.showableAll (l.map nd) = true
  | [], _ => rfl
  | x :: l, h => by
    have hx := h x List.mem_cons_self
    simp only [List.map_cons, PyData.showableAll, nd, PyData.showable, Bool.and_eq_true, Bool.and_true]
    exact ⟨⟨decide_eq_true (Nat.lt_of_le_of_lt (Nat.log2_le_self _) (by have := hx.1; show ((x.1 : Nat) : Int).natAbs < 1920; omega)), decide_eq_true (Nat.lt_of_le_of_lt (Nat.log2_le_self _) (by have := hx.2; show ((x.2 : Nat) : Int).natAbs < 1920; omega))⟩, nds_showable l fun y hy => h y (List.mem_cons_of_mem _ hy)⟩
def nats (l : List Nat) : List PyData := l.map fun a => .int ((a : Nat) : Int)
theorem nats_short : ∀ l : List Nat, (∀ x ∈ l, x ≤ 1000) → PyData.intsShortAll 13 (nats l) = true
  | [], _ => rfl
  | x :: l, h => by
    have hx := h x List.mem_cons_self
    simp only [nats, List.map_cons, PyData.intsShortAll, PyData.intsShort, Bool.and_eq_true, decide_eq_true_eq]
    exact ⟨int_short (by omega), nats_short l fun y hy => h y (List.mem_cons_of_mem _ hy)⟩
theorem nats_weight : ∀ l : List Nat, (∀ x ∈ l, x ≤ 1000) → PyData.weightAll (nats l) ≤ 21 * l.length
  | [], _ => Nat.le_refl _
  | x :: l, h => by
    have hx := h x List.mem_cons_self
    have ih := nats_weight l fun y hy => h y (List.mem_cons_of_mem _ hy)
    have w1 := int_weight (a := x) (by omega)
    have e : PyData.weightAll (nats (x :: l)) = PyData.weight (.int ((x : Nat) : Int)) + 1 + PyData.weightAll (nats l) := by
      simp only [nats, List.map_cons, PyData.weightAll]
    rw [e, List.length_cons]
    omega
theorem nats_lay (l : List Nat) : PyData.canLayAll0 (nats l) = true := by
  unfold nats
  have := ints_lay (l.map fun a => ((a : Nat) : Int))
  rw [List.map_map] at this
  exact this
theorem nats_shaped (l : List Nat) : SeqAt.shaped (.list (nats l)) = true := by
  have := ints_shaped (l.map fun a => ((a : Nat) : Int))
  rw [List.map_map] at this
  exact this
theorem nats_dp {K : PySem.W.Frag} {H : Hp} (l : List Nat) : DpAll K H (l.map fun a => V.int ((a : Nat) : Int)) (nats l) := by
  have := ints_dp (K := K) (H := H) (l.map fun a => ((a : Nat) : Int))
  rw [List.map_map, List.map_map] at this
  exact this
theorem nats_fits (l : List Nat) (h : ∀ x ∈ l, x ≤ 1000) (hl : l.length ≤ 1000) : (PyData.list (nats l)).shown.length ≤ sizeLine := by
  have w := nats_weight l h
  refine PyData.shown_fits (B := 13) (by decide) (by decide) (PyData.leavesShort_of_canLay0 13 _ ?_ ?_) ?_
  · simp only [PyData.canLay0]
    exact nats_lay l
  · simp only [PyData.intsShort]
    exact nats_short l h
  · show PyData.weightAll (nats l) ≤ 2 ^ 20
    omega
theorem nats_showable : ∀ l : List Nat, (∀ x ∈ l, x ≤ 1000) → PyData.showableAll (nats l) = true
  | [], _ => rfl
  | x :: l, h => by
    have hx := h x List.mem_cons_self
    simp only [nats, List.map_cons, PyData.showableAll, PyData.showable, Bool.and_eq_true]
    exact ⟨decide_eq_true (Nat.lt_of_le_of_lt (Nat.log2_le_self _) (by show ((x : Nat) : Int).natAbs < 1920; omega)), nats_showable l fun y hy => h y (List.mem_cons_of_mem _ hy)⟩
/-- a whole number and a pair of them -/
def numPair (a b c : Nat) : PyData := .list [.int ((a : Nat) : Int), .tuple [.int ((b : Nat) : Int), .int ((c : Nat) : Int)]]
theorem numPair_shaped (a b c : Nat) : SeqAt.shaped (numPair a b c) = true := by
  show (PyData.canLay0 _ && decide (PyData.depth _ ≤ 64)) = true
  simp [numPair, PyData.canLay0, PyData.canLayAll0, PyData.depth, PyData.depthAll]
theorem numPair_showable {a b c : Nat} (h1 : a ≤ 1000000) (h2 : b ≤ 1000) (h3 : c ≤ 1000) : (numPair a b c).showable = true := by
  simp only [numPair, PyData.showable, PyData.showableAll, Bool.and_eq_true, Bool.and_true]
  have big : ∀ x : Nat, x ≤ 1000000 → decide (((x : Nat) : Int).natAbs.log2 < 1920) = true := fun x hx => decide_eq_true (by
    show x.log2 < 1920
    by_cases z : x = 0
    · subst z; decide
    · have := (Nat.log2_lt (k := 20) z).mpr (by omega)
      omega)
  exact ⟨big a h1, big b (by omega), big c (by omega)⟩
theorem numPair_fits {a b c : Nat} (h1 : a ≤ 1000000) (h2 : b ≤ 1000) (h3 : c ≤ 1000) : (numPair a b c).shown.length ≤ sizeLine := by
  have w1 := int_weight h1
  have w2 := int_weight (a := b) (by omega)
  have w3 := int_weight (a := c) (by omega)
  refine PyData.shown_fits (B := 13) (by decide) (by decide) (PyData.leavesShort_of_canLay0 13 _ ?_ ?_) ?_
  · simp [numPair, PyData.canLay0, PyData.canLayAll0]
  · simp only [numPair, PyData.intsShort, PyData.intsShortAll, Bool.and_eq_true, decide_eq_true_eq, Bool.and_true]
    exact ⟨int_short h1, int_short (by omega), int_short (by omega)⟩
  · have e : (numPair a b c).weight = PyData.weight (.int ((a : Nat) : Int)) + 1 + ((PyData.weight (.int ((b : Nat) : Int)) + 1 + (PyData.weight (.int ((c : Nat) : Int)) + 1 + 0)) + 1 + 0) := by
      simp only [numPair, PyData.weight, PyData.weightAll]
    rw [e]
    omega
/-! ### repr of single values -/
def reprS : V → Str
  | .int i => toString i
  | .bl b => if b then "True" else "False"
  | _ => "None"
def reprOk : V → Prop
  | .int i => i.natAbs.log2 < 1920
  | .bl _ => True
  | .non => True
  | _ => False
theorem call_reprS {X : Cx} : CallR X (.builtin "repr") (fun xs H Q => ∃ v, xs = [v] ∧ reprOk v ∧ Q (.str (reprS v)) H) := by
  intro pins s σ H xs us Q I r h
  obtain ⟨v, rfl, ok, q⟩ := h
  cases v with
  | int i =>
    obtain ⟨u, rfl, t, rfl⟩ := vals1 r
    exact PySem.P.repr_of_int ok ⟨.str _, H, I.tok _, ⟨_, rfl⟩, q⟩
  | bl b =>
    obtain ⟨u, rfl, e⟩ := vals1 r
    cases (show u = Value.bool b from e)
    exact PySem.P.repr_of_bool ⟨.str _, H, I.tok _, ⟨_, rfl⟩, q⟩
  | non =>
    obtain ⟨u, rfl, e⟩ := vals1 r
    cases (show u = Value.none from e)
    exact PySem.P.repr_of_none ⟨.str _, H, I.tok _, ⟨_, rfl⟩, q⟩
  | str _ => exact ok.elim
  | byt _ => exact ok.elim
  | flt _ => exact ok.elim
  | ref _ => exact ok.elim
  | ty _ => exact ok.elim
end LT

namespace LT
open PySem PySem.Spec PyProof.Rows L2
/-- the sizes from e + 1 up to before s that have a depth, as one stretch -/
def Found (e s : Nat) (k : Int) (F : List (Nat × Nat)) : Prop := (F = [] ∧ ∀ t, e < t → t < s → ((dp t e : Nat) : Int) ≠ k) ∨
  ∃ f g, F = [(f, g)] ∧ e < f ∧ f ≤ g ∧ g < s ∧ ∀ t, e < t → t < s → (((dp t e : Nat) : Int) = k ↔ f ≤ t ∧ t ≤ g)
theorem nds_nil (l : List (Nat × Nat)) : PyData.eqv (.list (l.map nd)) (.list []) = l.isEmpty := by
  cases l with
  | nil => simp [PyData.eqv, PyData.eqvAll]
  | cons x l => simp [PyData.eqv, PyData.eqvAll]
theorem dp_grows {e s t : Nat} (h : e < s) (k : s ≤ t) : dp s e ≤ dp t e := by
  have := sib_grows h (t - s)
  rw [show s + (t - s) = t by omega] at this
  exact this
theorem Found.no {e s : Nat} {k : Int} {F : List (Nat × Nat)} (h : Found e s k F) (hs : e < s) (hk : ((dp s e : Nat) : Int) ≠ k) : Found e (s + 1) k F := by
  rcases h with ⟨rfl, h⟩ | ⟨f, g, rfl, h1, h2, h3, h4⟩
  · refine .inl ⟨rfl, fun t a b => ?_⟩
    by_cases c : t = s
    · subst c; exact hk
    · exact h t a (by omega)
  · refine .inr ⟨f, g, rfl, h1, h2, by omega, fun t a b => ?_⟩
    by_cases c : t = s
    · subst c
      exact ⟨fun z => absurd z hk, fun z => by omega⟩
    · exact h4 t a (by omega)
theorem Found.start {e s : Nat} {k : Int} (h : Found e s k []) (hs : e < s) (hk : ((dp s e : Nat) : Int) = k) : Found e (s + 1) k [(s, s)] := by
  rcases h with ⟨_, h⟩ | ⟨f, g, z, _⟩
  · refine .inr ⟨s, s, rfl, hs, Nat.le_refl _, by omega, fun t a b => ?_⟩
    by_cases c : t = s
    · subst c
      exact ⟨fun _ => by omega, fun _ => hk⟩
    · exact ⟨fun z => absurd z (h t a (by omega)), fun z => by omega⟩
  · cases z
theorem Found.more {e s f g : Nat} {k : Int} (h : Found e s k [(f, g)]) (hs : e < s) (hk : ((dp s e : Nat) : Int) = k) : g + 1 = s ∧ e < f ∧ f ≤ g ∧ Found e (s + 1) k [(f, s)] := by
  rcases h with ⟨z, _⟩ | ⟨f', g', z, h1, h2, h3, h4⟩
  · cases z
  · cases z
    have hg := (h4 g (by omega) h3).mpr ⟨h2, Nat.le_refl _⟩
    have hgs : g + 1 = s := by
      by_cases c : g + 1 = s
      · exact c
      · have a := dp_grows (e := e) (s := g) (t := s - 1) (by omega) (by omega)
        have b := dp_grows (e := e) (s := s - 1) (t := s) (by omega) (by omega)
        have := (h4 (s - 1) (by omega) (by omega)).mp (by omega)
        omega
    refine ⟨hgs, h1, h2, .inr ⟨f, s, rfl, h1, by omega, by omega, fun t a b => ?_⟩⟩
    by_cases c : t = s
    · subst c
      exact ⟨fun _ => by omega, fun _ => hk⟩
    · rw [h4 t a (by omega)]
      omega
section
variable {P : Program} {w : World} {K : PySem.W.Frag} {mg : Str → Option Value} {base : Heap}
/-- what is told is the stretch -/
def Told (e n : Nat) (k : Int) (F : List (Nat × Nat)) : Prop := (F = [] ∧ ∀ t, e < t → t ≤ n → ((dp t e : Nat) : Int) ≠ k) ∨
  ∃ f l, F = [(f, min l n)] ∧ e < f ∧ f ≤ l ∧ f ≤ n ∧ ∀ t, e < t → (((dp t e : Nat) : Int) = k ↔ f ≤ t ∧ t ≤ l)
theorem told_found {e n : Nat} {k : Int} {F G : List (Nat × Nat)} (h : Told e n k F) (g : Found e (n + 1) k G) : F = G := by
  rcases h with ⟨rfl, h⟩ | ⟨f, l, rfl, h1, h2, h3, h4⟩
  · rcases g with ⟨rfl, _⟩ | ⟨f', g', rfl, g1, g2, g3, g4⟩
    · rfl
    · exact absurd ((g4 f' g1 (by omega)).mpr ⟨Nat.le_refl _, g2⟩) (h f' g1 (by omega))
  · have hf := (h4 f h1).mpr ⟨Nat.le_refl _, h2⟩
    rcases g with ⟨rfl, g⟩ | ⟨f', g', rfl, g1, g2, g3, g4⟩
    · exact absurd hf (g f h1 (by omega))
    · have a := (g4 f h1 (by omega)).mp hf
      have b := (g4 f' g1 (by omega)).mpr ⟨Nat.le_refl _, g2⟩
      have b2 := (h4 f' g1).mp b
      have c := (g4 g' (by omega) g3).mpr ⟨g2, Nat.le_refl _⟩
      have c2 := (h4 g' (by omega)).mp c
      have d := (h4 (min l n) (by omega)).mpr (by omega)
      have d2 := (g4 (min l n) (by omega) (by omega)).mp d
      have e1 : f = f' := by omega
      have e2 : min l n = g' := by omega
      rw [e1, e2]
def spSizesTold : Sp := fun vs H Q _ => ∃ (e n : Nat) (k : Int), vs = [.int e, .int k, .int n] ∧ e < 10 ^ 30 ∧ 1 ≤ n ∧ n ≤ 10 ^ 30 ∧
  ∀ (H' : Hp) (p : Addr) (xs : List V) (F : List (Nat × Nat)), Same H H' → H p = none → H' p = some (.lst xs) → All2 (Nd H') xs F → F.length ≤ 1 → Told e n k F → Q (.ref p) H'
theorem sizes_told {k : Nat} {f : Addr} {fd : FuncData} (F : FnOk P w K mg base CX0 k f fd ["entry", "number", "most"] spSizesWith) : FnOk P w K mg base CX0 k f fd ["entry", "number", "most"] spSizesTold :=
  F.imp fun vs H Q E h => by
    obtain ⟨e, n, k, rfl, he, n1, h30, q⟩ := h
    refine ⟨e, n, k, rfl, he, n1, h30, fun H' p s np hp no => ?_, fun H' p u f l s np hp hu h1 h2 h3 h4 => ?_⟩
    · exact q H' p [] [] s np hp .nil (Nat.zero_le _) (.inl ⟨rfl, no⟩)
    · exact q H' p [u] [(f, min l n)] s np hp (.cons hu .nil) (Nat.le_refl _) (.inr ⟨f, l, rfl, h1, h2, h3, h4⟩)
def spSmall : Sp := fun vs H Q _ => ∃ (b : Addr), vs = [.ref b] ∧ BagAt H b ∧ ∀ (H' : Hp), But b H H' → BagAt H' b → Q (.bl true) H'
theorem ok_law_small_right {f g1 g2 g3 : Addr} {fd d1 d2 d3 : FuncData} (F : Fun K "_law_small_right" "_law_small_right" sLawSmallRight f fd) (GLawPick : FnOk P w K mg base CX0 1 g1 d1 ["bag", "many"] spPick) (ALawPick : At K mg "_law_pick" g1 d1 ["bag", "many"])
    (GLawDepth : FnOk P w K mg base CX0 3 g2 d2 ["size", "entry"] spLawDepth) (ALawDepth : At K mg "_law_depth" g2 d2 ["size", "entry"])
    (GSizesWith : FnOk P w K mg base CX0 8 g3 d3 ["entry", "number", "most"] spSizesTold) (ASizesWith : At K mg "sizes_with" g3 d3 ["entry", "number", "most"])
    (z_range : mg "range" = none) (z_repr : mg "repr" = none) : GOk P w K mg base 9 f fd ["bag"] spSmall := by
  refine okG F scLawSmallRight (fun vs H Q E h => ?_) (fun cdv A outer s H vs Q hg hr h => ?_)
  · obtain ⟨_, rfl, _⟩ := h
    rfl
  obtain ⟨b, rfl, hb, q⟩ := h
  refine' ⟨_, (pss_cons (ps_set (i := 1) scLawSmallRight.nd rfl (Or.inl rfl) (pe_call GLawPick (hr.mono (by decide)) rfl ALawPick.m ALawPick.kp ALawPick.b .nil pass0 (pa_cons (pv 0) (pa_cons pe_int pa_nil))))
    (pss_cons (ps_set (i := 2) scLawSmallRight.nd rfl (Or.inl rfl) (pe_op op_add pe_int (pe_call GLawPick (hr.mono (by decide)) rfl ALawPick.m ALawPick.kp ALawPick.b .nil pass0 (pa_cons (pv 0) (pa_cons pe_int pa_nil)))))
    (pss_cons (ps_for PassesOwn.never rfl (pi_list (pe_lst (pa_cons (pe_op op_sub (pe_call GLawPick (hr.mono (by decide)) rfl ALawPick.m ALawPick.kp ALawPick.b .nil pass0 (pa_cons (pv 0) (pa_cons pe_int pa_nil))) pe_int) (pa_cons (pe_call GLawPick (hr.mono (by decide)) rfl ALawPick.m ALawPick.kp ALawPick.b .nil pass0 (pa_cons (pv 0) (pa_cons pe_int pa_nil))) (pa_cons (pe_call GLawDepth (hr.mono (by decide)) rfl ALawDepth.m ALawDepth.kp ALawDepth.b .nil pass0 (pa_cons (pe_op op_add (pe_op op_add (pv 1) pe_int) (pe_call GLawPick (hr.mono (by decide)) rfl ALawPick.m ALawPick.kp ALawPick.b .nil pass0 (pa_cons (pv 0) (pa_cons pe_int pa_nil)))) (pa_cons (pv 1) pa_nil))) pa_nil))))) (pg_name (i := 3) scLawSmallRight.nd rfl (Or.inl rfl))
    (pss_cons (ps_set (i := 4) scLawSmallRight.nd rfl (Or.inl rfl) (pe_lst pa_nil))
    (pss_cons (ps_for PassesOwn.never rfl (pi_range2 (by rfl) z_range (pa_cons (pe_op op_add (pv 1) pe_int) (pa_cons (pe_op op_add (pv 2) pe_int) pa_nil))) (pg_name (i := 5) scLawSmallRight.nd rfl (Or.inl rfl))
    (pss_one (ps_if (pt_cmpR op_eq (pe_call GLawDepth (hr.mono (by decide)) rfl ALawDepth.m ALawDepth.kp ALawDepth.b .nil pass0 (pa_cons (pv 5) (pa_cons (pv 1) pa_nil))) (pv 3) (nomark _))
    (pss_one (ps_if (PW.pt (pw_and (pt_cmpR (op_neD hr.units) (pv 4) (pe_lst pa_nil) (nomark _)) (pw_and1 (pt_cmpR op_eq (pe_ix ix_tup (pe_ix ix_list (pv 4) (pe_un un_neg pe_int) (fun _ _ => rfl)) pe_int (fun _ _ => rfl)) (pe_op op_sub (pv 5) pe_int) (nomark _)))))
    (pss_one (ps_asg (pe_tup (pa_cons (pe_ix ix_tup (pe_ix ix_list (pv 4) (pe_un un_neg pe_int) (fun _ _ => rfl)) pe_int (fun _ _ => rfl)) (pa_cons (pv 5) pa_nil))) (pg_sub (pv 4) (pe_un un_neg pe_int) set_list)))
    (pss_one (ps_expr (pe_bm PySem.F.plainAttrs_list PySem.F.slot_list_append PySem.F.type_list_append mt_append (pv 4) (pa_cons (pe_tup (pa_cons (pv 5) (pa_cons (pv 5) pa_nil))) pa_nil))))))
    pss_nil)))
    (pss_cons (ps_set (i := 6) scLawSmallRight.nd rfl (Or.inl rfl) (pe_call GSizesWith (hr.mono (by decide)) rfl ASizesWith.m ASizesWith.kp ASizesWith.b .nil pass0 (pa_cons (pv 1) (pa_cons (pv 3) (pa_cons (pv 2) pa_nil)))))
    (pss_cons (ps_if (pt_cmpR op_ne (pe_callB (call_repr hg (units1 hr)) (by rfl) z_repr (by decide +kernel) (pa_cons (pv 6) pa_nil)) (pe_callB (call_repr hg (units1 hr)) (by rfl) z_repr (by decide +kernel) (pa_cons (pv 4) pa_nil)) (nomark _))
    (pss_one (ps_ret pe_bl))
    pss_nil)
    (pss_cons (ps_expr (pe_bm PySem.F.plainAttrs_list PySem.F.slot_list_append PySem.F.type_list_append mt_append (pv 6) (pa_cons pe_non pa_nil)))
    (pss_one (ps_if (pt_cmpR (op_neD hr.units) (pe_call GSizesWith (hr.mono (by decide)) rfl ASizesWith.m ASizesWith.kp ASizesWith.b .nil pass0 (pa_cons (pv 1) (pa_cons (pv 3) (pa_cons (pv 2) pa_nil)))) (pv 4) (nomark _))
    (pss_one (ps_ret pe_bl))
    pss_nil))))))))
    (pss_one (ps_ret pe_bl))))), ?_⟩
  have two : 2 ≤ sizeLine := by decide
  refine ⟨_, rfl, b, 150, rfl, by decide, by decide, hb, fun r1 H1 r10 r11 k1 b1 => ?_⟩
  obtain ⟨e, rfl⟩ := Int.eq_ofNat_of_zero_le r10
  refine ⟨_, rfl, b, 200, rfl, by decide, by decide, b1, fun r2 H2 r20 r21 k2 b2 => ⟨_, _, rfl, rfl, ?_⟩⟩
  obtain ⟨n0, rfl⟩ := Int.eq_ofNat_of_zero_le r20
  obtain ⟨n, en⟩ : ∃ n : Nat, n = 1 + n0 := ⟨_, rfl⟩
  have en2 : (1 : Int) + (n0 : Int) = (n : Int) := by omega
  refine ⟨_, rfl, b, 10, rfl, by decide, by decide, b2, fun r3 H3 r30 r31 k3 b3 => ⟨_, _, rfl, rfl, ?_⟩⟩
  refine ⟨_, rfl, b, 10, rfl, by decide, by decide, b3, fun r4 H4 r40 r41 k4 b4 => ?_⟩
  refine ⟨_, rfl, _, _, rfl, rfl, _, rfl, b, 40, rfl, by decide, by decide, b4, fun r5 H5 r50 r51 k5 b5 => ⟨_, _, rfl, rfl, ?_⟩⟩
  obtain ⟨n5, rfl⟩ := Int.eq_ofNat_of_zero_le r50
  refine ⟨_, rfl, e + 1 + n5, e, congrArg (fun z => [V.int z, V.int (e : Int)]) (by omega), by omega, by omega, fun H6 s6 => ⟨(by show 3 ≤ sizeLine; decide), fun l nl => ?_⟩⟩
  have s7 := same_upd (o := .lst [.int (r3 - 1), .int r4, .int ((dp (e + 1 + n5) e : Nat) : Int)]) nl
  have b7 := (b5.same s6).same s7
  have B7 : But b H (upd H6 l (.lst [.int (r3 - 1), .int r4, .int ((dp (e + 1 + n5) e : Nat) : Int)])) := fun a o z k => s7 _ _ (s6 _ _ (by rw [k5 a z, k4 a z, k3 a z, k2 a z, k1 a z]; exact k))
  have h7 : (upd H6 l (.lst [.int (r3 - 1), .int r4, .int ((dp (e + 1 + n5) e : Nat) : Int)])) l = some (.lst ([r3 - 1, r4, ((dp (e + 1 + n5) e : Nat) : Int)].map V.int)) := upd_same
  generalize upd H6 l (.lst [.int (r3 - 1), .int r4, .int ((dp (e + 1 + n5) e : Nat) : Int)]) = H7 at b7 B7 h7
  generalize [r3 - 1, r4, ((dp (e + 1 + n5) e : Nat) : Int)] = ks at h7
  have n1 : 1 ≤ n := by omega
  have n200 : n ≤ 200 := by omega
  refine ⟨l, rfl, ⟨_, SqL.of h7⟩, for_list (K := K) (a := l) (xs := ks.map V.int) (fun i σ H' => ∃ v3 v4 v5 v6 : Option V, σ = [some (.ref b), some (.int (e : Int)), some (.int (1 + (n0 : Int))), v3, v4, v5, v6] ∧ Same H7 H') ⟨none, none, none, none, rfl, Same.refl _⟩ (fun i σ H' _ ⟨_, _, _, _, _, k⟩ => SqL.of (k _ _ h7)) ?_ ?_⟩
  · rintro i x σ H8 hi ⟨v3, v4, v5, v6, rfl, s8⟩
    rw [List.getElem?_map] at hi
    obtain ⟨k, _, rfl⟩ := Option.map_eq_some_iff.mp hi
    refine ⟨Nat.zero_le _, fun fa nf => ?_⟩
    have s9 := same_upd (o := .lst []) nf
    have cnt : ((1 + (n0 : Int)) + 1 - ((e : Int) + 1)).toNat = n - e := by omega
    refine ⟨_, rfl, _, _, rfl, rfl, _, rfl, _, _, rfl, rfl, _, _, rfl, ⟨by omega, by omega, by omega, by omega⟩, ?_⟩
    rw [cnt]
    refine for_range (lo := (e : Int) + 1) (n := n - e) (fun i σ H' => ∃ (v5 : Option V) (xs : List V) (G : List (Nat × Nat)), σ = [some (.ref b), some (.int (e : Int)), some (.int (1 + (n0 : Int))), some (.int k), some (.ref fa), v5, v6] ∧ Same H8 H' ∧ H' fa = some (.lst xs) ∧ All2 (Nd H') xs G ∧ Found e (e + 1 + i) k G)
      ⟨v5, [], [], rfl, s9, upd_same, .nil, .inl ⟨rfl, fun t a b => by omega⟩⟩ ?_ ?_
    · rintro j σ H9 hj ⟨v5, xs, G, rfl, s9, hf, hx, hF⟩
      have es : (e : Int) + 1 + (j : Int) = ((e + 1 + j : Nat) : Int) := by omega
      rw [es]
      have hF' : e + 1 + (j + 1) = e + 1 + j + 1 := by omega
      rw [hF']
      have hs : e < e + 1 + j := by omega
      have hs2 : e + 1 + j ≤ 200 := by omega
      generalize e + 1 + j = s at hF hs hs2
      have nf0 : H8 fa = none := nf
      have st : ∀ {H9' : Hp} {o : HO}, Same H9 H9' → Same H8 (upd H9' fa o) := fun {H9' o} k a o' z => by
        rw [upd_ne (ne_of_none z nf0)]
        exact k _ _ (s9 _ _ z)
      refine ⟨_, rfl, _, rfl, s, e, rfl, hs, by omega, fun H10 s10 => ⟨_, rfl, rfl, ?_⟩⟩
      have hf10 := s10 _ _ hf
      have hx10 := hx.mono (fun v x (k : Nd H9 v x) => k.same s10)
      by_cases hk : ((dp s e : Nat) : Int) = k
      · refine ⟨true, congrArg V.bl (decide_eq_true (congrArg V.int hk)), ?_⟩
        refine ⟨_, rfl, Nat.zero_le _, fun l2 nl2 => ?_⟩
        have s11 := same_upd (o := .lst []) nl2
        have hf11 := s11 _ _ hf10
        have hx11 := hx10.mono (fun v x (k : Nd H10 v x) => k.same s11)
        have s10_11 := s10.trans s11
        have emp : Dp K (upd H10 l2 (.lst [])) (.ref l2) (.list []) := .lst (SqL.of upd_same) .nil
        generalize upd H10 l2 (.lst []) = H11 at hf11 hx11 s10_11 emp s11
        refine ⟨.list (G.map nd), .list [], .lst (SqL.of hf11) (nds_dp hx11), emp, nds_shaped G, nds_shaped [], ?_⟩
        rw [nds_nil]
        have hF0 := hF
        rcases hF with ⟨hG, _⟩ | ⟨f, g, hG, _⟩
        · subst hG
          refine ⟨false, rfl, ?_⟩
          cases hx11
          refine ⟨_, rfl, .inl ⟨rfl, _, SqL.of hf11⟩, _, rfl, _, rfl, two, fun t nt => ?_⟩
          have s12 := same_upd (o := .tup [.int (s : Int), .int (s : Int)]) nt
          have hf12 := s12 _ _ hf11
          refine ⟨fa, _, _, rfl, rfl, hf12, szlt (by decide), ?_⟩
          exact ⟨_, _, [(s, s)], rfl, st (s10_11.trans s12), upd_same, .cons (Nd.upd (x := (s, s)) ⟨t, rfl, upd_same⟩ hf12) .nil, hF0.start hs hk⟩
        · subst hG
          obtain ⟨v, rfl, hv⟩ : ∃ v, xs = [v] ∧ Nd H11 v (f, g) := by
            cases hx11 with | cons a t => cases t; exact ⟨_, rfl, a⟩
          obtain ⟨vp, rfl, hvp⟩ := hv
          obtain ⟨hgs, hef, hfg, hF2⟩ := hF0.more hs hk
          refine ⟨true, rfl, ?_⟩
          have at1 : atI [V.ref vp] (-1) = some (.ref vp) := atI_last [] _
          refine ⟨_, rfl, 1, rfl, fa, _, _, _, rfl, rfl, SqL.of hf11, at1, vp, _, _, _, rfl, rfl, SqT.of hvp, atI_nat (j := 1) rfl, _, rfl, _, _, rfl, rfl, rfl, true, congrArg V.bl (decide_eq_true (congrArg V.int (by simp only; omega))), ?_⟩
          refine ⟨_, rfl, 1, rfl, fa, _, _, _, rfl, rfl, SqL.of hf11, at1, vp, _, _, _, rfl, rfl, SqT.of hvp, atI_nat (j := 0) rfl, _, rfl, two, fun t nt => ?_⟩
          have s12 := same_upd (o := .tup [.int (f : Int), .int (s : Int)]) nt
          have hf12 := s12 _ _ hf11
          refine ⟨_, rfl, 1, rfl, fa, _, _, 0, rfl, rfl, hf12, rfl, ?_⟩
          exact ⟨_, _, [(f, s)], rfl, st (s10_11.trans s12), upd_same, .cons (Nd.upd (x := (f, s)) ⟨t, rfl, upd_same⟩ hf12) .nil, hF2⟩
      · refine ⟨false, congrArg V.bl (decide_eq_false (fun z => hk (V.int.inj z))), ?_⟩
        exact ⟨_, xs, G, rfl, s9.trans s10, hf10, hx10, hF.no hs hk⟩
    · rintro σ H9 ⟨v5, xs, G, rfl, s9, hf, hx, hF⟩
      have hF2 : Found e (n + 1) k G := by
        by_cases c : e ≤ n
        · rw [show e + 1 + (n - e) = n + 1 by omega] at hF
          exact hF
        · rcases hF with ⟨hG, _⟩ | ⟨f, g, _, h1, h2, h3, _⟩
          · exact .inl ⟨hG, fun t a b => by omega⟩
          · omega
      refine ⟨_, rfl, _, rfl, _, rfl, e, n, k, congrArg (fun z => [V.int (e : Int), V.int k, V.int z]) en2, by omega, n1, by omega, fun H10 p ys F s10 np hp hy Fl hT => ?_⟩
      have FG := told_found hT hF2
      subst FG
      have sm : ∀ x ∈ F, small x := by
        intro x hx
        rcases hT with ⟨z, _⟩ | ⟨f, l, z, _, _, h3, _⟩
        · rw [z] at hx; cases hx
        · rw [z, List.mem_singleton] at hx
          subst hx
          exact ⟨by simp only; omega, by simp only; omega⟩
      have hf10 := s10 _ _ hf
      have hx10 := hx.mono (fun v x (k : Nd H9 v x) => k.same s10)
      have shw : (PyData.list (F.map nd)).showable = true := nds_showable F sm
      have fit := nds_fits F sm (by omega)
      refine ⟨_, rfl, _, _, rfl, .lst (SqL.of hp) (nds_dp hy), rfl, nds_shaped F, shw, fit, _, rfl, _, _, rfl, .lst (SqL.of hf10) (nds_dp hx10), rfl, nds_shaped F, shw, fit, rfl, false, ?_, ?_⟩
      · refine congrArg V.bl ?_
        rw [Bool.not_eq_false']
        exact decide_eq_true rfl
      have pfa : fa ≠ p := ne_of_none hf np
      refine ⟨_, rfl, .inl ⟨rfl, _, SqL.of hp⟩, p, _, _, rfl, rfl, hp, szlt (by rw [hy.len]; omega), ?_⟩
      have np8 : H8 p = none := s9.free np
      have s11 : Same H8 (upd H10 p (.lst (ys ++ [.non]))) := fun a o z => by
        rw [upd_ne (ne_of_none z np8)]
        exact s10 _ _ (s9 _ _ z)
      have hf11 : (upd H10 p (.lst (ys ++ [.non]))) fa = some (.lst xs) := by rw [upd_ne pfa]; exact hf10
      have hx11 : All2 (Nd (upd H10 p (.lst (ys ++ [.non])))) xs F := hx10.mono (fun v x (k : Nd H10 v x) => k.upd hp)
      generalize upd H10 p (.lst (ys ++ [.non])) = H11 at s11 hf11 hx11
      refine ⟨_, rfl, _, rfl, _, rfl, e, n, k, congrArg (fun z => [V.int (e : Int), V.int k, V.int z]) en2, by omega, n1, by omega, fun H12 p2 zs F2 s12 np2 hp2 hz Fl2 hT2 => ?_⟩
      have FG2 := told_found hT2 hF2
      subst FG2
      refine ⟨_, rfl, .list (F2.map nd), .list (F2.map nd), .lst (SqL.of hp2) (nds_dp hz), .lst (SqL.of (s12 _ _ hf11)) (nds_dp (hx11.mono fun v x (k : Nd H11 v x) => k.same s12)), nds_shaped F2, nds_shaped F2, ?_⟩
      rw [SeqAt.eqv_refl _ (SeqAt.canLay_of_shaped (nds_shaped F2))]
      refine ⟨false, rfl, ?_⟩
      exact ⟨_, _, _, _, rfl, s8.trans (s11.trans s12)⟩
  · rintro σ H8 ⟨v3, v4, v5, v6, rfl, s8⟩
    exact q H8 (B7.trans (But.of s8)) (b7.same s8)
end
end LT

namespace LT
open PySem PySem.Spec PyProof.Rows L2
theorem dp_le {n e : Nat} (h : e < n) (h30 : n ≤ 10 ^ 30) : dp n e ≤ 100 := by
  have a := sib_len_le n 0 e (Nat.zero_le _) (by omega)
  have b := lb100 h30
  unfold dp
  omega
theorem told_none {e n : Nat} {k : Int} {F : List (Nat × Nat)} (h : Told e n k F) (h30 : n ≤ 10 ^ 30) (hk : k < 0 ∨ 100 < k) : F = [] := by
  rcases h with ⟨h, _⟩ | ⟨f, l, _, h1, h2, h3, h4⟩
  · exact h
  · have a := (h4 f h1).mpr ⟨Nat.le_refl _, h2⟩
    have b := dp_le h1 (show f ≤ 10 ^ 30 by omega)
    omega
theorem told_one {e m f l : Nat} {k : Int} {F : List (Nat × Nat)} (h : Told e m k F) (h1 : e < f) (h2 : f ≤ l) (hm : f ≤ m) (h4 : ∀ t, e < t → (((dp t e : Nat) : Int) = k ↔ f ≤ t ∧ t ≤ l)) : F = [(f, min l m)] := by
  rcases h with ⟨_, h⟩ | ⟨f', l', rfl, g1, g2, g3, g4⟩
  · exact absurd ((h4 f h1).mpr ⟨Nat.le_refl _, h2⟩) (h f h1 hm)
  · have a := (g4 f h1).mp ((h4 f h1).mpr ⟨Nat.le_refl _, h2⟩)
    have b := (h4 f' g1).mp ((g4 f' g1).mpr ⟨Nat.le_refl _, g2⟩)
    have c := (g4 l (by omega)).mp ((h4 l (by omega)).mpr ⟨h2, Nat.le_refl _⟩)
    have d := (h4 l' (by omega)).mp ((g4 l' (by omega)).mpr ⟨g2, Nat.le_refl _⟩)
    have e1 : f' = f := by omega
    have e2 : l' = l := by omega
    rw [e1, e2]
theorem cut_two : ∀ (l : List V), l.length ≤ 1 → cutV l (some (-2)) none = l
  | [], _ => rfl
  | [x], _ => rfl
  | _ :: _ :: _, h => by simp at h
def inT (s : Nat) (x : Nat × Nat) : Bool := decide (x.1 ≤ s) && decide (s ≤ x.2)
theorem told_in {e n : Nat} {k : Int} {F : List (Nat × Nat)} (h : Told e n k F) {s : Nat} (h1 : e < s) (h2 : s ≤ n) : (!((F.filter (inT s)).map fun _ => (1 : Int)).isEmpty) = decide (V.int ((dp s e : Nat) : Int) = V.int k) := by
  rcases h with ⟨rfl, h⟩ | ⟨f, l, rfl, f1, f2, f3, f4⟩
  · rw [decide_eq_false (fun z => h s h1 h2 (V.int.inj z))]
    rfl
  · rw [List.filter_cons]
    by_cases c : f ≤ s ∧ s ≤ l
    · have e1 : inT s (f, min l n) = true := by
        unfold inT
        rw [Bool.and_eq_true]
        exact ⟨decide_eq_true c.1, decide_eq_true (by simp only; omega)⟩
      rw [if_pos e1, decide_eq_true (congrArg V.int ((f4 s h1).mpr c))]
      rfl
    · have e1 : inT s (f, min l n) = false := by
        unfold inT
        rw [Bool.and_eq_false_iff]
        by_cases c1 : f ≤ s
        · exact .inr (decide_eq_false (by simp only; omega))
        · exact .inl (decide_eq_false c1)
      rw [e1, decide_eq_false (fun z => c ((f4 s h1).mp (V.int.inj z)))]
      rfl
section
variable {P : Program} {w : World} {K : PySem.W.Frag} {mg : Str → Option Value} {base : Heap}
theorem ok_law_great_right {f g1 g2 g3 : Addr} {fd d1 d2 d3 : FuncData} (F : Fun K "_law_great_right" "_law_great_right" sLawGreatRight f fd) (GLawPick : FnOk P w K mg base CX0 1 g1 d1 ["bag", "many"] spPick) (ALawPick : At K mg "_law_pick" g1 d1 ["bag", "many"])
    (GLawDepth : FnOk P w K mg base CX0 3 g2 d2 ["size", "entry"] spLawDepth) (ALawDepth : At K mg "_law_depth" g2 d2 ["size", "entry"])
    (GSizesWith : FnOk P w K mg base CX0 8 g3 d3 ["entry", "number", "most"] spSizesTold) (ASizesWith : At K mg "sizes_with" g3 d3 ["entry", "number", "most"])
    (z_range : mg "range" = none) (z_max : mg "max" = none) (z_min : mg "min" = none) (z_int : mg "int" = none) : FnOk P w K mg base CX0 9 f fd ["bag"] spSmall := by
  refine F.ok scLawGreatRight (fun vs H Q E h => ?_) (fun cdv A outer s H vs Q E hr h => ?_)
  · obtain ⟨_, rfl, _⟩ := h
    rfl
  obtain ⟨b, rfl, hb, q⟩ := h
  refine' ⟨_, (pss_cons (ps_set (i := 1) scLawGreatRight.nd rfl (Or.inr rfl) (pe_ix ix_list (pe_lst (pa_cons (pe_call GLawPick (hr.mono (by decide)) rfl ALawPick.m ALawPick.kp ALawPick.b .nil pass0 (pa_cons (pv 0) (pa_cons (pe_op op_pow pe_int pe_int) pa_nil))) (pa_cons (pe_op op_sub (pe_op op_add (pe_op op_shl pe_int (pe_call GLawPick (hr.mono (by decide)) rfl ALawPick.m ALawPick.kp ALawPick.b .nil pass0 (pa_cons (pv 0) (pa_cons pe_int pa_nil)))) (pe_call GLawPick (hr.mono (by decide)) rfl ALawPick.m ALawPick.kp ALawPick.b .nil pass0 (pa_cons (pv 0) (pa_cons pe_int pa_nil)))) pe_int) pa_nil))) (pe_call GLawPick (hr.mono (by decide)) rfl ALawPick.m ALawPick.kp ALawPick.b .nil pass0 (pa_cons (pv 0) (pa_cons pe_int pa_nil))) (fun _ _ => rfl)))
    (pss_cons (ps_set (i := 1) scLawGreatRight.nd rfl (Or.inr rfl) (pe_callB (call_min2 rfl) (by rfl) z_min (by decide +kernel) (pa_cons (pe_callB (call_max2 rfl) (by rfl) z_max (by decide +kernel) (pa_cons pe_int (pa_cons (pv 1) pa_nil))) (pa_cons (pe_op op_sub (pe_op op_pow pe_int pe_int) pe_int) pa_nil))))
    (pss_cons ?cc1
    (pss_cons (ps_par (i := 3) (j := 4) (by rfl) scLawGreatRight.nd rfl rfl (by decide) rfl rfl (pa_cons (pe_call GLawDepth (hr.mono (by decide)) rfl ALawDepth.m ALawDepth.kp ALawDepth.b .nil pass0 (pa_cons (pe_ix ix_list (pv 2) pe_int (fun _ _ => rfl)) (pa_cons (pv 1) pa_nil))) (pa_cons (pe_ix ix_list (pe_lst (pa_cons (pe_op op_pow pe_int pe_int) (pa_cons (pe_ix ix_list (pv 2) pe_int (fun _ _ => rfl)) pa_nil))) (pe_call GLawPick (hr.mono (by decide)) rfl ALawPick.m ALawPick.kp ALawPick.b .nil pass0 (pa_cons (pv 0) (pa_cons pe_int pa_nil))) (fun _ _ => rfl)) pa_nil)) (by rfl))
    (pss_cons (ps_par (i := 5) (j := 6) (by rfl) scLawGreatRight.nd rfl rfl (by decide) rfl rfl (pa_cons (pe_call GSizesWith (hr.mono (by decide)) rfl ASizesWith.m ASizesWith.kp ASizesWith.b .nil pass0 (pa_cons (pv 1) (pa_cons (pv 3) (pa_cons (pv 4) pa_nil)))) (pa_cons (pv 1) pa_nil)) (by rfl))
    (pss_cons (ps_for PassesOwn.never rfl (pi_list (pv 5)) (pg_tup (by rfl) (pgs_cons (pg_name (i := 7) scLawGreatRight.nd rfl (Or.inl rfl)) (pgs_cons (pg_name (i := 8) scLawGreatRight.nd rfl (Or.inl rfl)) pgs_nil)))
    (pss_cons (ps_if (pt_not (pt_chain3 op_lt op_le op_le (pe_op op_add (pv 6) (pe_callTy call_int1 (by rfl) z_int (by decide +kernel) (pa_cons (pe_cmpR op_gt (pv 6) (pv 1) (nomark _)) pa_nil))) (pv 7) (pv 8) (pv 4)))
    (pss_one (ps_ret pe_bl))
    pss_nil)
    (pss_cons (ps_set (i := 6) scLawGreatRight.nd rfl (Or.inl rfl) (pv 8))
    (pss_cons (ps_for PassesOwn.never rfl (pi_tup (pe_tup (pa_cons (pv 7) (pa_cons (pv 8) (pa_cons (pe_op op_add (pv 7) (pe_call GLawPick (hr.mono (by decide)) rfl ALawPick.m ALawPick.kp ALawPick.b .nil pass0 (pa_cons (pv 0) (pa_cons (pe_op op_add (pe_op op_sub (pv 8) (pv 7)) pe_int) pa_nil)))) pa_nil))))) (pg_name (i := 9) scLawGreatRight.nd rfl (Or.inr rfl))
    (pss_one (ps_if (pt_cmpR op_ne (pe_call GLawDepth (hr.mono (by decide)) rfl ALawDepth.m ALawDepth.kp ALawDepth.b .nil pass0 (pa_cons (pv 9) (pa_cons (pv 1) pa_nil))) (pv 3) (nomark _))
    (pss_one (ps_ret pe_bl))
    pss_nil)))
    (pss_one (ps_for PassesOwn.never rfl (pi_tup (pe_tup (pa_cons (pe_op op_sub (pv 7) pe_int) (pa_cons (pe_op op_add (pv 8) pe_int) pa_nil)))) (pg_name (i := 9) scLawGreatRight.nd rfl (Or.inr rfl))
    (pss_one (ps_if (PW.pt (pw_and (pt_chain op_lt op_le (pv 1) (pv 9) (pv 4)) (pw_and1 (pt_cmpR op_eq (pe_call GLawDepth (hr.mono (by decide)) rfl ALawDepth.m ALawDepth.kp ALawDepth.b .nil pass0 (pa_cons (pv 9) (pa_cons (pv 1) pa_nil))) (pv 3) (nomark _)))))
    (pss_one (ps_ret pe_bl))
    pss_nil))))))))
    (pss_cons (ps_for PassesOwn.never rfl (pi_list (pe_op op_cat (pv 2) (pe_lst (pa_cons (pe_op op_add (pv 1) pe_int) pa_nil)))) (pg_name (i := 9) scLawGreatRight.nd rfl (Or.inr rfl))
    (pss_cons (ps_set (i := 10) scLawGreatRight.nd rfl (Or.inl rfl) (pe_cmpR (op_neD hr.units) (pe_lc (own := [("first", 7), ("last", 8)]) rfl scLawGreatRight.nd (pi_list (pv 5)) (blkOk_by (N := ["bag", "entry", "sizes", "number", "most", "told", "ahead", "first", "last", "size", "is_told", "most_there", "due", "turn", "stretch"]) (sc := defScope sLawGreatRight) (by decide +kernel)) (fun _ _ _ _ _ => (pg_tupB (n := 2) rfl (pgs_cons (pg_name (i := 7) scLawGreatRight.nd rfl (Or.inl rfl)) (pgs_cons (pg_name (i := 8) scLawGreatRight.nd rfl (Or.inl rfl)) pgs_nil)))) (fun _ _ _ _ _ => pts_one (pt_chain op_le op_le (pv 7) (pv 9) (pv 8))) (fun _ _ _ _ _ => pe_int)) (pe_lst pa_nil) (nomark _)))
    (pss_one (ps_if (PW.pt (pw_and (pt_cmpR op_le (pv 9) (pv 4) (nomark _)) (pw_and1 (pt_cmpR op_ne (pv 10) (pe_cmpR op_eq (pe_call GLawDepth (hr.mono (by decide)) rfl ALawDepth.m ALawDepth.kp ALawDepth.b .nil pass0 (pa_cons (pv 9) (pa_cons (pv 1) pa_nil))) (pv 3) (nomark _)) (nomark _)))))
    (pss_one (ps_ret pe_bl))
    pss_nil))))
    (pss_cons (ps_for PassesOwn.never rfl (pi_list (pe_op op_cat (pe_slice sl_list (pe_lc (own := [("stretch", 14)]) rfl scLawGreatRight.nd (pi_list (pv 5)) (blkOk_by (N := ["bag", "entry", "sizes", "number", "most", "told", "ahead", "first", "last", "size", "is_told", "most_there", "due", "turn", "stretch"]) (sc := defScope sLawGreatRight) (by decide +kernel)) (fun _ _ _ _ _ => (pg_name (i := 14) scLawGreatRight.nd rfl (Or.inl rfl))) (fun _ _ _ _ _ => pts_nil) (fun _ _ _ _ _ => (pe_ix ix_tupB (pv 14) pe_int (fun _ _ => rfl)))) (po_some (pe_un un_neg pe_int)) po_none) (pe_slice sl_list (pe_lc (own := [("stretch", 14)]) rfl scLawGreatRight.nd (pi_list (pv 5)) (blkOk_by (N := ["bag", "entry", "sizes", "number", "most", "told", "ahead", "first", "last", "size", "is_told", "most_there", "due", "turn", "stretch"]) (sc := defScope sLawGreatRight) (by decide +kernel)) (fun _ _ _ _ _ => (pg_name (i := 14) scLawGreatRight.nd rfl (Or.inl rfl))) (fun _ _ _ _ _ => pts_nil) (fun _ _ _ _ _ => (pe_ix ix_tupB (pv 14) pe_int (fun _ _ => rfl)))) (po_some (pe_un un_neg pe_int)) po_none))) (pg_name (i := 11) scLawGreatRight.nd rfl (Or.inr rfl))
    (pss_cons ?cc2
    (pss_one (ps_if (pt_cmpR (op_neD hr.units) (pe_call GSizesWith (hr.mono (by decide)) rfl ASizesWith.m ASizesWith.kp ASizesWith.b .nil pass0 (pa_cons (pv 1) (pa_cons (pv 3) (pa_cons (pv 11) pa_nil)))) (pv 12) (nomark _))
    (pss_one (ps_ret pe_bl))
    pss_nil))))
    (pss_one (ps_ret (pe_and (pe_cmpR (op_eqD hr.units) (pe_call GSizesWith (hr.mono (by decide)) rfl ASizesWith.m ASizesWith.kp ASizesWith.b .nil pass0 (pa_cons (pv 1) (pa_cons pe_int (pa_cons (pe_op op_pow pe_int pe_int) pa_nil)))) (pe_lst pa_nil) (nomark _)) (pe_one (pe_cmpR (op_eqD hr.units) (pe_call GSizesWith (hr.mono (by decide)) rfl ASizesWith.m ASizesWith.kp ASizesWith.b .nil pass0 (pa_cons (pv 1) (pa_cons (pe_un un_neg pe_int) (pa_cons (pv 4) pa_nil)))) (pe_lst pa_nil) (nomark _)))))))))))))), ?_⟩
  case cc1 => exact (ps_setLc (i := 2) (own := [("turn", 13)]) rfl scLawGreatRight.nd rfl rfl (sw_true rfl rfl rfl (by decide +kernel)) (pi_range1 (by rfl) z_range (pa_cons pe_int pa_nil)) (blkOk_by (N := ["bag", "entry", "sizes", "number", "most", "told", "ahead", "first", "last", "size", "is_told", "most_there", "due", "turn", "stretch"]) (sc := defScope sLawGreatRight) (by decide +kernel)) (fun _ _ _ _ _ => (pg_name (i := 13) scLawGreatRight.nd rfl (Or.inl rfl))) (fun _ _ _ _ _ => pts_nil) (fun _ _ _ _ _ => (pe_callB (call_min2 rfl) (by rfl) z_min (by decide +kernel) (pa_cons (pe_op op_pow pe_int pe_int) (pa_cons (pe_op op_add (pe_op op_add (pv 1) pe_int) (pe_call GLawPick (hr.mono (by decide)) rfl ALawPick.m ALawPick.kp ALawPick.b .nil pass0 (pa_cons (pv 0) (pa_cons (pe_op op_shl pe_int (pe_call GLawPick (hr.mono (by decide)) rfl ALawPick.m ALawPick.kp ALawPick.b .nil pass0 (pa_cons (pv 0) (pa_cons pe_int pa_nil)))) pa_nil)))) pa_nil)))))
  case cc2 => exact (ps_setLc (i := 12) (own := [("first", 7), ("last", 8)]) rfl scLawGreatRight.nd rfl rfl (sw_true rfl rfl rfl (by decide +kernel)) (pi_list (pv 5)) (blkOk_by (N := ["bag", "entry", "sizes", "number", "most", "told", "ahead", "first", "last", "size", "is_told", "most_there", "due", "turn", "stretch"]) (sc := defScope sLawGreatRight) (by decide +kernel)) (fun _ _ _ _ _ => (pg_tupB (n := 2) rfl (pgs_cons (pg_name (i := 7) scLawGreatRight.nd rfl (Or.inl rfl)) (pgs_cons (pg_name (i := 8) scLawGreatRight.nd rfl (Or.inl rfl)) pgs_nil)))) (fun _ _ _ _ _ => pts_one (pt_cmpR op_le (pv 7) (pv 11) (nomark _))) (fun _ _ _ _ _ => (pe_tup (pa_cons (pv 7) (pa_cons (pe_callB (call_min2 rfl) (by rfl) z_min (by decide +kernel) (pa_cons (pv 8) (pa_cons (pv 11) pa_nil))) pa_nil)))))
  have two : 2 ≤ sizeLine := by decide
  have e30 : (10 : Int) ^ (30 : Int).toNat = 1000000000000000000000000000000 := by decide
  have bne : ∀ {H : Hp} {p : Addr}, BagAt H b → H p = none → p ≠ b := fun hb hp z => by
    obtain ⟨_, _, _, e⟩ := hb
    rw [← z, hp] at e
    cases e
  -- the entry
  refine ⟨_, rfl, _, _, rfl, rfl, ⟨by decide, by decide, by decide⟩, b, _, rfl, by decide, by decide, hb, fun r1 H1 r10 r11 k1 b1 => ?_⟩
  refine ⟨_, rfl, b, 99, rfl, by decide, by decide, b1, fun r2 H2 r20 r21 k2 b2 => ⟨_, _, rfl, rfl, ⟨r20, by omega, by decide⟩, ?_⟩⟩
  refine ⟨_, rfl, b, 3, rfl, by decide, by decide, b2, fun r3 H3 r30 r31 k3 b3 => ⟨_, _, rfl, rfl, _, _, rfl, rfl, (by show 2 ≤ sizeLine; decide), fun l nl => ?_⟩⟩
  dsimp only
  generalize (1 : Int) * 2 ^ r2.toNat + r3 - 1 = u2
  have s4 := same_upd (o := .lst [.int r1, .int u2]) nl
  have hl4 : (upd H3 l (.lst [.int r1, .int u2])) l = some (.lst [.int r1, .int u2]) := upd_same
  have lb_ := bne b3 nl
  have b4 := b3.same s4
  have B4 : But b H (upd H3 l (.lst [.int r1, .int u2])) := fun a o z k => s4 _ _ (by rw [k3 a z, k2 a z, k1 a z]; exact k)
  generalize upd H3 l (.lst [.int r1, .int u2]) = H4 at b4 B4 hl4
  refine ⟨_, rfl, b, 2, rfl, by decide, by decide, b4, fun r5 H5 r50 r51 k5 b5 => ?_⟩
  obtain ⟨n5, rfl⟩ := Int.eq_ofNat_of_zero_le r50
  have hv : ∃ u : Int, atI [V.int r1, .int u2] (n5 : Int) = some (.int u) := by
    have : n5 = 0 ∨ n5 = 1 := by omega
    rcases this with rfl | rfl
    · exact ⟨_, atI_nat (j := 0) rfl⟩
    · exact ⟨_, atI_nat (j := 1) rfl⟩
  obtain ⟨u, hu⟩ := hv
  have B5 : But b H H5 := fun a o z k => by rw [k5 a z]; exact B4 a o z k
  refine ⟨l, _, _, _, rfl, rfl, SqL.of ((k5 l lb_).trans hl4), hu, ?_⟩
  have he : ∃ e : Nat, e < 10 ^ 30 ∧ (if 10 ^ (30 : Int).toNat - 1 < (if u > 0 then u else 0) then 10 ^ (30 : Int).toNat - 1 else (if u > 0 then u else 0)) = (e : Int) := by
    rw [e30]
    refine ⟨(if (1000000000000000000000000000000 : Int) - 1 < (if u > 0 then u else 0) then 1000000000000000000000000000000 - 1 else (if u > 0 then u else 0)).toNat, ?_, ?_⟩ <;> split <;> split <;> omega
  obtain ⟨e, eb, ee⟩ := he
  refine ⟨_, rfl, _, _, rfl, _, _, rfl, rfl, ⟨by decide, by decide, by decide⟩, _, _, rfl, rfl, _, _, rfl, ?_⟩
  rw [ee]
  -- the sizes
  refine ⟨4, rfl, by decide, by decide, fun D nD => lc_range (lo := 0) (n := 4) (fun i H' => ∃ S : List Nat, But b H5 H' ∧ BagAt H' b ∧ H' D = some (.lst (S.map fun (s : Nat) => V.int (s : Int))) ∧ S.length = i ∧ ∀ s ∈ S, e < s ∧ s ≤ 10 ^ 30) ⟨[], But.of (same_upd nD), b5.same (same_upd nD), upd_same, rfl, fun _ h => absurd h List.not_mem_nil⟩ ?_ ?_⟩
  · rintro i H6 hi ⟨S, B6, b6, hD, hl, hS⟩
    have Db := bne b5 nD
    refine ⟨rfl, ?_⟩
    refine ⟨_, _, rfl, rfl, ⟨by decide, by decide, by decide⟩, _, rfl, _, _, rfl, rfl, _, rfl, _, rfl, b, 100, rfl, by decide, by decide, b6, fun r7 H7 r70 r71 k7 b7 => ⟨_, _, rfl, rfl, ⟨r70, by omega, by decide⟩, ?_⟩⟩
    obtain ⟨n7, rfl⟩ := Int.eq_ofNat_of_zero_le r70
    have p7 := Nat.pow_pos (a := 2) (n := n7) (by decide)
    have p7b : 2 ^ n7 ≤ 2 ^ 100 := Nat.pow_le_pow_right (by decide) (by omega)
    have eq7 : (1 : Int) * 2 ^ ((n7 : Nat) : Int).toNat = ((2 ^ n7 : Nat) : Int) := by rw [Int.one_mul, Int.toNat_natCast]; exact (Int.natCast_pow 2 _).symm
    refine ⟨b, ((2 ^ n7 : Nat) : Int), congrArg (fun z => [V.ref b, V.int z]) eq7, by omega, by omega, b7, fun r8 H8 r80 r81 k8 b8 => ⟨_, _, rfl, rfl, _, _, rfl, ?_⟩⟩
    have hs : ∃ s : Nat, e < s ∧ s ≤ 10 ^ 30 ∧ (if (e : Int) + 1 + r8 < 10 ^ (30 : Int).toNat then (e : Int) + 1 + r8 else 10 ^ (30 : Int).toNat) = (s : Int) := by
      rw [e30]
      refine ⟨(if (e : Int) + 1 + r8 < 1000000000000000000000000000000 then (e : Int) + 1 + r8 else 1000000000000000000000000000000).toNat, ?_, ?_, ?_⟩ <;> split <;> omega
    obtain ⟨s, s1, s2, es⟩ := hs
    dsimp only
    rw [es]
    have hD8 : H8 D = some (.lst (S.map fun (s : Nat) => V.int (s : Int))) := (k8 D Db).trans ((k7 D Db).trans hD)
    refine ⟨_, hD8, szlt (by rw [List.length_map]; omega), S ++ [s], ?_, ?_, ?_, by rw [List.length_append, hl]; rfl, ?_⟩
    · exact fun a o z k => by rw [upd_ne (ne_of_none k nD), k8 a z, k7 a z]; exact B6 a o z k
    · obtain ⟨x, y, z, h⟩ := b8
      exact ⟨x, y, z, by rw [upd_ne (fun w => Db w.symm)]; exact h⟩
    · rw [List.map_append]
      exact upd_same
    · intro t ht
      rcases List.mem_append.mp ht with ht | ht
      · exact hS t ht
      · rw [List.mem_singleton] at ht
        subst ht
        exact ⟨s1, s2⟩
  rintro H6 ⟨S, B6, b6, hD, hl, hS⟩
  have Db := bne b5 nD
  obtain ⟨s0, s1, S2, rfl⟩ : ∃ s0 s1 S2, S = s0 :: s1 :: S2 := by
    match S, hl with
    | a :: b :: r, _ => exact ⟨a, b, r, rfl⟩
  have h0 := hS s0 List.mem_cons_self
  have h1 := hS s1 (List.mem_cons_of_mem _ List.mem_cons_self)
  have B6' : But b H H6 := B5.trans B6
  -- number, most
  refine ⟨_, rfl, D, _, _, _, rfl, rfl, SqL.of hD, atI_nat (j := 0) rfl, _, rfl, s0, e, rfl, h0.1, by omega, fun H7 s7 => ?_⟩
  have hD7 := s7 _ _ hD
  refine ⟨_, _, rfl, rfl, ⟨by decide, by decide, by decide⟩, _, rfl, D, _, _, _, rfl, rfl, SqL.of hD7, atI_nat (j := 1) rfl, two, fun l2 nl2 => ?_⟩
  have s8 := same_upd (o := .lst [.int (10 ^ (30 : Int).toNat), .int (s1 : Int)]) nl2
  have b8 := (b6.same s7).same s8
  have l2b := bne (b6.same s7) nl2
  refine ⟨_, rfl, b, 2, rfl, by decide, by decide, b8, fun r9 H9 r90 r91 k9 b9 => ?_⟩
  obtain ⟨n9, rfl⟩ := Int.eq_ofNat_of_zero_le r90
  have hm : ∃ n : Nat, e < n ∧ n ≤ 10 ^ 30 ∧ atI [V.int (10 ^ (30 : Int).toNat), .int (s1 : Int)] (n9 : Int) = some (.int (n : Int)) := by
    have : n9 = 0 ∨ n9 = 1 := by omega
    rcases this with rfl | rfl
    · exact ⟨10 ^ 30, eb, Nat.le_refl _, by rw [e30]; exact atI_nat (j := 0) rfl⟩
    · exact ⟨s1, h1.1, h1.2, atI_nat (j := 1) rfl⟩
  obtain ⟨n, en, n30, hn⟩ := hm
  have hl9 : H9 l2 = some (.lst [.int (10 ^ (30 : Int).toNat), .int (s1 : Int)]) := (k9 l2 l2b).trans upd_same
  have B9 : But b H H9 := fun a o z k => by rw [k9 a z]; exact s8 _ _ (s7 _ _ (B6' a o z k))
  have hD9 : H9 D = some (.lst ((s0 :: s1 :: S2).map fun (s : Nat) => V.int (s : Int))) := (k9 D Db).trans (s8 _ _ hD7)
  refine ⟨l2, _, _, _, rfl, rfl, SqL.of hl9, hn, _, _, rfl, ?_⟩
  generalize hk : ((dp s0 e : Nat) : Int) = k
  -- what is told
  refine ⟨_, rfl, _, rfl, _, rfl, e, n, k, rfl, eb, by omega, n30, fun H10 p xs F s10 np hp hx Fl hT => ?_⟩
  refine ⟨_, rfl, _, _, rfl, ?_⟩
  have b10 := b9.same s10
  have B10 := B9.trans (But.of (b := b) s10)
  have hD10 := s10 _ _ hD9
  have xl := hx.len
  have pb := bne b9 np
  have key : F = [] ∨ ∃ f l, F = [(f, min l n)] ∧ e < f ∧ f ≤ l ∧ f ≤ n ∧ ∀ t, e < t → (((dp t e : Nat) : Int) = k ↔ f ≤ t ∧ t ≤ l) := hT.imp (fun z => z.1) (fun z => z)
  refine ⟨_, rfl, p, rfl, ⟨_, SqL.of hp⟩, for_list (K := K) (a := p) (xs := xs) (fun i σ H' => ∃ (ah : Int) (v7 v8 v9 : Option V), σ = [some (.ref b), some (.int (e : Int)), some (.ref D), some (.int k), some (.int (n : Int)), some (.ref p), some (.int ah), v7, v8, v9, none, none, none, none, none] ∧ (i = 0 → ah = (e : Int)) ∧ But b H10 H' ∧ BagAt H' b)
    ⟨(e : Int), none, none, none, rfl, fun _ => rfl, But.refl b H10, b10⟩ (fun i σ H' _ ⟨_, _, _, _, _, _, B, _⟩ => SqL.of (B _ _ pb hp)) ?_ ?_⟩
  · rintro i v σ H11 hi ⟨ah, v7, v8, v9, rfl, h0a, B11, b11⟩
    have ndB : ∀ {H' : Hp} {v : V} {x : Nat × Nat}, But b H10 H' → Nd H10 v x → Nd H' v x := fun {H' v x} B k => by
      obtain ⟨q, e, k2⟩ := k
      refine ⟨q, e, B _ _ (fun z => ?_) k2⟩
      obtain ⟨_, _, _, e2⟩ := b10
      rw [← z, k2] at e2
      cases e2
    obtain ⟨x, hxi, hv⟩ := hx.nth hi
    obtain ⟨f, l, hF, f1, f2, f3, f4⟩ : ∃ f l, F = [(f, min l n)] ∧ e < f ∧ f ≤ l ∧ f ≤ n ∧ ∀ t, e < t → (((dp t e : Nat) : Int) = k ↔ f ≤ t ∧ t ≤ l) := by
      rcases key with z | z
      · rw [z] at hxi; simp at hxi
      · exact z
    have i0 : i = 0 := by
      have := (List.getElem?_eq_some_iff.mp hxi).1
      omega
    subst i0
    have ex : x = (f, min l n) := by
      rw [hF] at hxi
      exact (Option.some.inj hxi).symm
    subst ex
    have hah := h0a rfl
    subst hah
    obtain ⟨vp, rfl, hvp⟩ := ndB B11 hv
    have g1 : f ≤ min l n := by omega
    have g2 : min l n ≤ n := by omega
    have g3 : ∀ t, f ≤ t → t ≤ min l n → ((dp t e : Nat) : Int) = k := fun t a c => (f4 t (by omega)).mpr ⟨a, by omega⟩
    have g4 : ∀ t, e < t → t ≤ n → ¬ (f ≤ t ∧ t ≤ min l n) → ¬ ((dp t e : Nat) : Int) = k := fun t a c d z => d (by have := (f4 t a).mp z; omega)
    generalize min l n = g at g1 g2 g3 g4 hvp
    have ez : (if decide ((e : Int) > (e : Int)) = true then (1 : Int) else 0) = 0 := if_neg (fun z => by have := of_decide_eq_true z; omega)
    refine ⟨vp, _, rfl, SqT.of hvp, rfl, _, _, rfl, _, _, rfl, rfl, ?_⟩
    refine ⟨_, rfl, _, rfl, _, rfl, _, _, rfl, rfl, .inr ⟨_, rfl, _, _, rfl, rfl, _, rfl, _, _, rfl, rfl, true, ?_, ?_⟩⟩
    · refine congrArg V.bl (decide_eq_true ?_)
      rw [ez]
      omega
    refine ⟨_, rfl, _, _, rfl, rfl, true, congrArg V.bl (decide_eq_true (by omega)), _, rfl, _, _, rfl, rfl, true, congrArg V.bl (decide_eq_true (by omega)), ?_⟩
    refine ⟨_, rfl, ?_⟩
    refine ⟨_, rfl, _, rfl, _, rfl, _, rfl, _, rfl, _, rfl, _, _, rfl, rfl, _, _, rfl, rfl, b, ((g - f + 1 : Nat) : Int), congrArg (fun z => [V.ref b, V.int z]) (by simp only; omega), by omega, by omega, b11, fun r H12 r0 r1 k12 b12 => ⟨_, _, rfl, rfl, (by show 3 ≤ sizeLine; decide), fun tp ntp => ?_⟩⟩
    obtain ⟨rn, rfl⟩ := Int.eq_ofNat_of_zero_le r0
    have s13 := same_upd (o := .tup [.int (f : Int), .int (g : Int), .int ((f : Int) + (rn : Int))]) ntp
    have ht13 : (upd H12 tp (.tup [.int (f : Int), .int (g : Int), .int ((f : Int) + (rn : Int))])) tp = some (.tup ([f, g, f + rn].map fun (s : Nat) => V.int (s : Int))) := by rw [upd_same]; rfl
    have b13 := b12.same s13
    have B13 : But b H10 (upd H12 tp (.tup [.int (f : Int), .int (g : Int), .int ((f : Int) + (rn : Int))])) := fun a o z k => s13 _ _ (by rw [k12 a z]; exact B11 a o z k)
    have tpb := bne b12 ntp
    generalize upd H12 tp (.tup [.int (f : Int), .int (g : Int), .int ((f : Int) + (rn : Int))]) = H13 at ht13 b13 B13
    refine ⟨tp, rfl, ⟨_, SqT.of ht13⟩, for_tup (K := K) (a := tp) (xs := [f, g, f + rn].map fun (s : Nat) => V.int (s : Int)) (fun i σ H' => ∃ v9 : Option V, σ = [some (.ref b), some (.int (e : Int)), some (.ref D), some (.int k), some (.int (n : Int)), some (.ref p), some (.int (g : Int)), some (.int (f : Int)), some (.int (g : Int)), v9, none, none, none, none, none] ∧ Same H13 H')
      ⟨v9, rfl, Same.refl _⟩ (fun i σ H' _ ⟨_, _, k⟩ => SqT.of (k _ _ ht13)) ?_ ?_⟩
    · rintro j u σ H14 hj ⟨v9, rfl, s14⟩
      rw [List.getElem?_map] at hj
      obtain ⟨t, ht, rfl⟩ := Option.map_eq_some_iff.mp hj
      have tb : f ≤ t ∧ t ≤ g := by
        have := List.mem_of_getElem? ht
        have : t = f ∨ t = g ∨ t = f + rn := by simpa using this
        omega
      refine ⟨_, rfl, _, rfl, t, e, rfl, by omega, by omega, fun H15 s15 => ⟨_, rfl, rfl, false, ?_, ?_⟩⟩
      · refine congrArg V.bl ?_
        rw [Bool.not_eq_false']
        exact decide_eq_true (congrArg V.int (g3 t tb.1 tb.2))
      exact ⟨_, rfl, s14.trans s15⟩
    · rintro σ H14 ⟨v9, rfl, s14⟩
      refine ⟨_, rfl, _, _, rfl, rfl, _, rfl, _, _, rfl, rfl, two, fun tp2 ntp2 => ?_⟩
      have s15 := same_upd (o := .tup [.int ((f : Int) - 1), .int ((g : Int) + 1)]) ntp2
      have ht15 : (upd H14 tp2 (.tup [.int ((f : Int) - 1), .int ((g : Int) + 1)])) tp2 = some (.tup ([(f : Int) - 1, (g : Int) + 1].map V.int)) := upd_same
      have s1315 := s14.trans s15
      generalize upd H14 tp2 (.tup [.int ((f : Int) - 1), .int ((g : Int) + 1)]) = H15 at ht15 s1315
      refine ⟨tp2, rfl, ⟨_, SqT.of ht15⟩, for_tup (K := K) (a := tp2) (xs := [(f : Int) - 1, (g : Int) + 1].map V.int) (fun i σ H' => ∃ v9 : Option V, σ = [some (.ref b), some (.int (e : Int)), some (.ref D), some (.int k), some (.int (n : Int)), some (.ref p), some (.int (g : Int)), some (.int (f : Int)), some (.int (g : Int)), v9, none, none, none, none, none] ∧ Same H15 H')
        ⟨v9, rfl, Same.refl _⟩ (fun i σ H' _ ⟨_, _, k⟩ => SqT.of (k _ _ ht15)) ?_ ?_⟩
      · rintro j u σ H16 hj ⟨v9, rfl, s16⟩
        rw [List.getElem?_map] at hj
        obtain ⟨t, ht, rfl⟩ := Option.map_eq_some_iff.mp hj
        have tb : t = (f : Int) - 1 ∨ t = (g : Int) + 1 := by
          have := List.mem_of_getElem? ht
          simpa using this
        by_cases c1 : (e : Int) < t
        · by_cases c2 : t ≤ (n : Int)
          · obtain ⟨tn, rfl⟩ := Int.eq_ofNat_of_zero_le (show 0 ≤ t by omega)
            refine ⟨_, rfl, _, rfl, _, _, rfl, rfl, true, congrArg V.bl (decide_eq_true c1), _, rfl, _, _, rfl, rfl, true, congrArg V.bl (decide_eq_true c2), ?_⟩
            refine ⟨_, rfl, _, rfl, tn, e, rfl, by omega, by omega, fun H17 s17 => ⟨_, rfl, rfl, false, congrArg V.bl (decide_eq_false (fun z => g4 tn (by omega) (by omega) (by omega) (V.int.inj z))), ?_⟩⟩
            exact ⟨_, rfl, s16.trans s17⟩
          · refine ⟨_, rfl, _, rfl, _, _, rfl, rfl, true, congrArg V.bl (decide_eq_true c1), _, rfl, _, _, rfl, rfl, false, congrArg V.bl (decide_eq_false c2), ?_⟩
            exact ⟨_, rfl, s16⟩
        · refine ⟨_, rfl, _, rfl, _, _, rfl, rfl, false, congrArg V.bl (decide_eq_false c1), false, rfl, ?_⟩
          exact ⟨_, rfl, s16⟩
      · rintro σ H16 ⟨v9, rfl, s16⟩
        have sE := s1315.trans s16
        exact ⟨_, _, _, _, rfl, fun z => by omega, B13.trans (But.of sE), b13.same sE⟩
  rintro σ H11 ⟨ah, v7, v8, v9, rfl, _, B11, b11⟩
  have hD11 := B11 _ _ Db hD10
  have hp11 := B11 _ _ pb hp
  have hx11 : All2 (Nd H11) xs F := hx.mono fun v x (k : Nd H10 v x) => by
    obtain ⟨q, e, k2⟩ := k
    refine ⟨q, e, B11 _ _ (fun z => ?_) k2⟩
    obtain ⟨_, _, _, e2⟩ := b10
    rw [← z, k2] at e2
    cases e2
  have BA := B10.trans B11
  refine ⟨_, rfl, _, rfl, _, _, rfl, rfl, (by show 1 ≤ sizeLine; decide), fun l3 nl3 => ?_⟩
  have s12 := same_upd (o := .lst [.int ((e : Int) + 1)]) nl3
  refine ⟨D, l3, _, _, rfl, rfl, s12 _ _ hD11, upd_same, szle (by rw [List.length_map, hl, List.length_singleton]; decide), fun r nr => ?_⟩
  have s13 := same_upd (o := .lst (((s0 :: s1 :: S2).map fun (s : Nat) => V.int (s : Int)) ++ [.int ((e : Int) + 1)])) nr
  have hr13 : (upd (upd H11 l3 (.lst [.int ((e : Int) + 1)])) r (.lst (((s0 :: s1 :: S2).map fun (s : Nat) => V.int (s : Int)) ++ [.int ((e : Int) + 1)]))) r = some (.lst (((s0 :: s1 :: S2) ++ [e + 1]).map fun (s : Nat) => V.int (s : Int))) := by
    rw [upd_same, List.map_append]
    rfl
  have hS' : ∀ s ∈ (s0 :: s1 :: S2) ++ [e + 1], e < s ∧ s ≤ 10 ^ 30 := fun s hs => by
    rcases List.mem_append.mp hs with hs | hs
    · exact hS s hs
    · rw [List.mem_singleton] at hs
      subst hs
      omega
  have s1113 := s12.trans s13
  generalize upd (upd H11 l3 (.lst [.int ((e : Int) + 1)])) r (.lst (((s0 :: s1 :: S2).map fun (s : Nat) => V.int (s : Int)) ++ [.int ((e : Int) + 1)])) = H13 at hr13 s1113
  generalize (s0 :: s1 :: S2) ++ [e + 1] = SS at hr13 hS'
  have hp13 := s1113 _ _ hp11
  have hx13 := hx11.mono fun v x (k : Nd H11 v x) => k.same s1113
  have b13 := b11.same s1113
  have BB := BA.trans (But.of (b := b) s1113)
  refine ⟨r, rfl, ⟨_, SqL.of hr13⟩, for_list (K := K) (a := r) (xs := SS.map fun (s : Nat) => V.int (s : Int)) (fun i σ H' => ∃ (v9 v10 : Option V), σ = [some (.ref b), some (.int (e : Int)), some (.ref D), some (.int k), some (.int (n : Int)), some (.ref p), some (.int ah), v7, v8, v9, v10, none, none, none, none] ∧ Same H13 H')
    ⟨v9, none, rfl, Same.refl _⟩ (fun i σ H' _ ⟨_, _, _, k⟩ => SqL.of (k _ _ hr13)) ?_ ?_⟩
  · rintro i u σ H14 hi ⟨v9, v10, rfl, s14⟩
    rw [List.getElem?_map] at hi
    obtain ⟨s, hs, rfl⟩ := Option.map_eq_some_iff.mp hi
    obtain ⟨sa, sb⟩ := hS' s (List.mem_of_getElem? hs)
    have hp14 := s14 _ _ hp13
    have hx14 := hx13.mono fun v x (k : Nd H13 v x) => k.same s14
    refine ⟨_, rfl, p, rfl, ⟨_, SqL.of hp14⟩, fun D3 nD3 => lc_list (xs := xs) (fun i H' => Same H14 H' ∧ H' D3 = some (.lst (((F.take i).filter (inT s)).map fun _ => V.int 1))) ⟨same_upd nD3, upd_same⟩ (fun i H' _ ⟨k, _⟩ => SqL.of (k _ _ hp14)) ?_ ?_⟩
    · rintro j v H15 hj ⟨s15, hD3⟩
      obtain ⟨x, hxj, hxv⟩ := hx14.nth hj
      obtain ⟨xp, rfl, hxp⟩ := hxv.same s15
      have fl : ((F.take j).filter (inT s)).length ≤ 1 := by
        have := List.length_filter_le (inT s) (F.take j)
        rw [List.length_take] at this
        omega
      refine ⟨xp, _, rfl, SqT.of hxp, rfl, _, _, rfl, _, _, rfl, rfl, rfl, ?_⟩
      have no : inT s x = false → Same H14 H15 ∧ H15 D3 = some (.lst (((F.take (j + 1)).filter (inT s)).map fun _ => V.int 1)) := fun e => by
        refine ⟨s15, ?_⟩
        rw [take_more hxj, List.filter_append, List.filter_cons, e]
        simpa using hD3
      by_cases c1 : x.1 ≤ s
      · by_cases c2 : s ≤ x.2
        · refine ⟨_, rfl, _, rfl, _, _, rfl, rfl, true, congrArg V.bl (decide_eq_true (by omega)), _, rfl, _, _, rfl, rfl, true, congrArg V.bl (decide_eq_true (by omega)), ?_⟩
          refine ⟨_, hD3, szlt (by rw [List.length_map]; omega), ?_, ?_⟩
          · exact fun a o k => by rw [upd_ne (ne_of_none k nD3)]; exact s15 _ _ k
          · rw [take_more hxj, List.filter_append, List.filter_cons, if_pos (by unfold inT; rw [Bool.and_eq_true]; exact ⟨decide_eq_true c1, decide_eq_true c2⟩), List.map_append]
            exact upd_same
        · refine ⟨_, rfl, _, rfl, _, _, rfl, rfl, true, congrArg V.bl (decide_eq_true (by omega)), _, rfl, _, _, rfl, rfl, false, congrArg V.bl (decide_eq_false (by omega)), ?_⟩
          exact no (by unfold inT; rw [decide_eq_false c2, Bool.and_false])
      · refine ⟨_, rfl, _, rfl, _, _, rfl, rfl, false, congrArg V.bl (decide_eq_false (by omega)), false, rfl, ?_⟩
        exact no (by unfold inT; rw [decide_eq_false c1, Bool.false_and])
    rintro H15 ⟨s15, hD3⟩
    rw [xl, List.take_length] at hD3
    refine ⟨Nat.zero_le _, fun l4 nl4 => ?_⟩
    have s16 := same_upd (o := .lst []) nl4
    have sh := ints_shaped ((F.filter (inT s)).map fun _ => (1 : Int))
    refine ⟨.list (((F.filter (inT s)).map fun _ => (1 : Int)).map PyData.int), .list [], ?_, .lst (SqL.of upd_same) .nil, sh, nds_shaped [], ?_⟩
    · refine .lst (SqL.of (s16 _ _ hD3)) ?_
      have := ints_dp (K := K) (H := upd H15 l4 (.lst [])) ((F.filter (inT s)).map fun _ => (1 : Int))
      rw [List.map_map] at this
      exact this
    rw [ints_nil]
    have hin := told_in hT (s := s) sa
    generalize (!((F.filter (inT s)).map fun _ => (1 : Int)).isEmpty) = A0 at hin
    have s1416 := s14.trans (s15.trans s16)
    by_cases c1 : s ≤ n
    · refine ⟨_, rfl, _, rfl, _, _, rfl, rfl, true, congrArg V.bl (decide_eq_true (by omega)), ?_⟩
      refine ⟨_, rfl, _, rfl, _, rfl, s, e, rfl, sa, by omega, fun H17 s17 => ⟨_, rfl, rfl, rfl, false, ?_, ?_⟩⟩
      · refine congrArg V.bl ?_
        rw [Bool.not_eq_false']
        exact decide_eq_true (congrArg V.bl (hin c1))
      exact ⟨_, _, rfl, s1416.trans s17⟩
    · refine ⟨_, rfl, _, rfl, _, _, rfl, rfl, false, congrArg V.bl (decide_eq_false (by omega)), ?_⟩
      exact ⟨_, _, rfl, s1416⟩
  rintro σ H14 ⟨v9, v10, rfl, s14⟩
  have hp14 := s14 _ _ hp13
  have hx14 := hx13.mono fun v x (k : Nd H13 v x) => k.same s14
  have b14 := b13.same s14
  have B14 := BB.trans (But.of (b := b) s14)
  refine ⟨_, rfl, p, rfl, ⟨_, SqL.of hp14⟩, fun D4 nD4 => lc_list (xs := xs) (fun i H' => Same H14 H' ∧ H' D4 = some (.lst ((F.take i).map fun x => V.int (x.2 : Int)))) ⟨same_upd nD4, upd_same⟩ (fun i H' _ ⟨k, _⟩ => SqL.of (k _ _ hp14)) ?_ ?_⟩
  · rintro j v H15 hj ⟨s15, hD4⟩
    obtain ⟨x, hxj, hxv⟩ := hx14.nth hj
    obtain ⟨xp, rfl, hxp⟩ := hxv.same s15
    refine ⟨rfl, ?_⟩
    refine ⟨_, rfl, xp, _, _, _, rfl, rfl, SqT.of hxp, atI_nat (j := 1) rfl, _, hD4, szlt (by rw [List.length_map, List.length_take]; omega), ?_, ?_⟩
    · exact fun a o k => by rw [upd_ne (ne_of_none k nD4)]; exact s15 _ _ k
    · rw [take_more hxj, List.map_append]
      exact upd_same
  rintro H15 ⟨s15, hD4⟩
  rw [xl, List.take_length] at hD4
  refine ⟨2, rfl, -2, rfl, D4, _, rfl, SqL.of hD4, fun c4 nc4 => ?_⟩
  rw [cut_two _ (by rw [List.length_map]; exact Fl)]
  have s16 := same_upd (o := .lst (F.map fun x => V.int (x.2 : Int))) nc4
  have hc4 : (upd H15 c4 (.lst (F.map fun x => V.int (x.2 : Int)))) c4 = some (.lst (F.map fun x => V.int (x.2 : Int))) := upd_same
  have s1416 := s15.trans s16
  generalize upd H15 c4 (.lst (F.map fun x => V.int (x.2 : Int))) = H16 at hc4 s1416
  have hp16 := s1416 _ _ hp14
  have hx16 := hx14.mono fun v x (k : Nd H14 v x) => k.same s1416
  refine ⟨_, rfl, p, rfl, ⟨_, SqL.of hp16⟩, fun D5 nD5 => lc_list (xs := xs) (fun i H' => Same H16 H' ∧ H' D5 = some (.lst ((F.take i).map fun x => V.int (x.1 : Int)))) ⟨same_upd nD5, upd_same⟩ (fun i H' _ ⟨k, _⟩ => SqL.of (k _ _ hp16)) ?_ ?_⟩
  · rintro j v H17 hj ⟨s17, hD5⟩
    obtain ⟨x, hxj, hxv⟩ := hx16.nth hj
    obtain ⟨xp, rfl, hxp⟩ := hxv.same s17
    refine ⟨rfl, ?_⟩
    refine ⟨_, rfl, xp, _, _, _, rfl, rfl, SqT.of hxp, atI_nat (j := 0) rfl, _, hD5, szlt (by rw [List.length_map, List.length_take]; omega), ?_, ?_⟩
    · exact fun a o k => by rw [upd_ne (ne_of_none k nD5)]; exact s17 _ _ k
    · rw [take_more hxj, List.map_append]
      exact upd_same
  rintro H17 ⟨s17, hD5⟩
  rw [xl, List.take_length] at hD5
  refine ⟨2, rfl, -2, rfl, D5, _, rfl, SqL.of hD5, fun c5 nc5 => ?_⟩
  rw [cut_two _ (by rw [List.length_map]; exact Fl)]
  have s18 := same_upd (o := .lst (F.map fun x => V.int (x.1 : Int))) nc5
  refine ⟨c4, c5, _, _, rfl, rfl, s18 _ _ (s17 _ _ hc4), upd_same, szle (by rw [List.length_map, List.length_map]; omega), fun r2 nr2 => ?_⟩
  have s19 := same_upd (o := .lst ((F.map fun x => V.int (x.2 : Int)) ++ (F.map fun x => V.int (x.1 : Int)))) nr2
  have hr19 : (upd (upd H17 c5 (.lst (F.map fun x => V.int (x.1 : Int)))) r2 (.lst ((F.map fun x => V.int (x.2 : Int)) ++ (F.map fun x => V.int (x.1 : Int))))) r2 = some (.lst (((F.map fun x => x.2) ++ (F.map fun x => x.1)).map fun (m : Nat) => V.int (m : Int))) := by
    rw [upd_same, List.map_append, List.map_map, List.map_map]
    rfl
  have s1419 := s1416.trans (s17.trans (s18.trans s19))
  generalize upd (upd H17 c5 (.lst (F.map fun x => V.int (x.1 : Int)))) r2 (.lst ((F.map fun x => V.int (x.2 : Int)) ++ (F.map fun x => V.int (x.1 : Int)))) = H19 at hr19 s1419
  have hM : ∀ m ∈ (F.map fun x => x.2) ++ (F.map fun x => x.1), ∃ f l, F = [(f, min l n)] ∧ e < f ∧ f ≤ l ∧ f ≤ m ∧ m ≤ min l n ∧ f ≤ n ∧ ∀ t, e < t → (((dp t e : Nat) : Int) = k ↔ f ≤ t ∧ t ≤ l) := by
    intro m hm
    rcases key with z | ⟨f, l, z, f1, f2, f3, f4⟩
    · rw [z] at hm; cases hm
    · rw [z] at hm
      have : m = min l n ∨ m = f := by simpa using hm
      exact ⟨f, l, z, f1, f2, by omega, by omega, f3, f4⟩
  generalize (F.map fun x => x.2) ++ (F.map fun x => x.1) = MM at hr19 hM
  have hp19 := s1419 _ _ hp14
  have hx19 := hx14.mono fun v x (k : Nd H14 v x) => k.same s1419
  have b19 := b14.same s1419
  have B19 := B14.trans (But.of (b := b) s1419)
  refine ⟨r2, rfl, ⟨_, SqL.of hr19⟩, for_list (K := K) (a := r2) (xs := MM.map fun (m : Nat) => V.int (m : Int)) (fun i σ H' => ∃ (v11 v12 : Option V), σ = [some (.ref b), some (.int (e : Int)), some (.ref D), some (.int k), some (.int (n : Int)), some (.ref p), some (.int ah), v7, v8, v9, v10, v11, v12, none, none] ∧ Same H19 H')
    ⟨none, none, rfl, Same.refl _⟩ (fun i σ H' _ ⟨_, _, _, k⟩ => SqL.of (k _ _ hr19)) ?_ ?_⟩
  · rintro i u σ H20 hi ⟨v11, v12, rfl, s20⟩
    rw [List.getElem?_map] at hi
    obtain ⟨m, hm, rfl⟩ := Option.map_eq_some_iff.mp hi
    obtain ⟨f, l, hF, f1, f2, fm, mg_, fn, f4⟩ := hM m (List.mem_of_getElem? hm)
    have hp20 := s20 _ _ hp19
    have hx20 := hx19.mono fun v x (k : Nd H19 v x) => k.same s20
    refine ⟨_, rfl, p, rfl, ⟨_, SqL.of hp20⟩, fun D6 nD6 => lc_list (xs := xs) (fun i H' => ∃ zs : List V, Same H20 H' ∧ H' D6 = some (.lst zs) ∧ All2 (Nd H') zs ((F.take i).map fun x => (x.1, min x.2 m))) ⟨[], same_upd nD6, upd_same, .nil⟩ (fun i H' _ ⟨_, k, _⟩ => SqL.of (k _ _ hp20)) ?_ ?_⟩
    · rintro j v H21 hj ⟨zs, s21, hD6, hz⟩
      obtain ⟨x, hxj, hxv⟩ := hx20.nth hj
      have xF : x = (f, min l n) := by
        have := List.mem_of_getElem? hxj
        rw [hF, List.mem_singleton] at this
        exact this
      subst xF
      obtain ⟨xp, rfl, hxp⟩ := hxv.same s21
      refine ⟨xp, _, rfl, SqT.of hxp, rfl, _, _, rfl, _, _, rfl, rfl, rfl, ?_⟩
      refine ⟨_, rfl, _, rfl, _, _, rfl, rfl, true, congrArg V.bl (decide_eq_true (by simp only; omega)), ?_⟩
      refine ⟨_, rfl, _, rfl, _, rfl, _, _, rfl, two, fun t nt => ?_⟩
      have em : (if (m : Int) < ((min l n : Nat) : Int) then (m : Int) else ((min l n : Nat) : Int)) = ((min (min l n) m : Nat) : Int) := by split <;> omega
      rw [em]
      have s22 := same_upd (o := .tup [.int (f : Int), .int ((min (min l n) m : Nat) : Int)]) nt
      have hD22 := s22 _ _ hD6
      refine ⟨_, hD22, szlt (by rw [hz.len, List.length_map, List.length_take]; omega), zs ++ [.ref t], ?_, upd_same, ?_⟩
      · exact fun a o k => by rw [upd_ne (ne_of_none k nD6)]; exact s22 _ _ (s21 _ _ k)
      · rw [take_more hxj, List.map_append]
        exact (hz.mono fun v x (k : Nd H21 v x) => (k.same s22).upd hD22).app (.cons (Nd.upd (x := (f, min (min l n) m)) ⟨t, rfl, upd_same⟩ hD22) .nil)
    rintro H21 ⟨zs, s21, hD6, hz⟩
    rw [xl, List.take_length, hF] at hz
    have hz : All2 (Nd H21) zs [(f, min (min l n) m)] := hz
    refine ⟨_, rfl, _, rfl, _, rfl, e, m, k, rfl, eb, by omega, by omega, fun H22 p2 ys F2 s22 np2 hp2 hy _ hT2 => ?_⟩
    have eF2 := told_one hT2 f1 f2 fm f4
    rw [show min l m = min (min l n) m by omega] at eF2
    subst eF2
    have sh := nds_shaped [(f, min (min l n) m)]
    refine ⟨_, rfl, .list ([(f, min (min l n) m)].map nd), .list ([(f, min (min l n) m)].map nd), .lst (SqL.of hp2) (nds_dp hy), .lst (SqL.of (s22 _ _ hD6)) (nds_dp (hz.mono fun v x (k : Nd H21 v x) => k.same s22)), sh, sh, ?_⟩
    rw [SeqAt.eqv_refl _ (SeqAt.canLay_of_shaped sh)]
    refine ⟨false, rfl, ?_⟩
    exact ⟨_, _, rfl, s20.trans (s21.trans s22)⟩
  · rintro σ H20 ⟨v11, v12, rfl, s20⟩
    have shn := nil_shaped
    refine ⟨_, rfl, _, _, rfl, rfl, ⟨by decide, by decide, by decide⟩, e, 10 ^ 30, 101, congrArg (fun z => [V.int (e : Int), V.int 101, V.int z]) e30, eb, by decide, by decide, fun H21 p3 ys F3 s21 np3 hp3 hy _ hT3 => ?_⟩
    have e3 := told_none hT3 (Nat.le_refl _) (.inr (by decide))
    subst e3
    cases hy
    refine ⟨Nat.zero_le _, fun l5 nl5 => ?_⟩
    have s22 := same_upd (o := .lst []) nl5
    refine ⟨.list [], .list [], .lst (SqL.of (s22 _ _ hp3)) .nil, .lst (SqL.of upd_same) .nil, shn, shn, ?_⟩
    rw [SeqAt.eqv_refl _ (SeqAt.canLay_of_shaped shn)]
    refine ⟨true, rfl, ?_⟩
    refine ⟨_, rfl, 1, rfl, _, rfl, e, n, -1, rfl, eb, by omega, n30, fun H23 p4 ys F4 s23 np4 hp4 hy _ hT4 => ?_⟩
    have e4 := told_none hT4 n30 (.inl (by decide))
    subst e4
    cases hy
    refine ⟨Nat.zero_le _, fun l6 nl6 => ?_⟩
    have s24 := same_upd (o := .lst []) nl6
    refine ⟨.list [], .list [], .lst (SqL.of (s24 _ _ hp4)) .nil, .lst (SqL.of upd_same) .nil, shn, shn, ?_⟩
    rw [SeqAt.eqv_refl _ (SeqAt.canLay_of_shaped shn)]
    have sE := s20.trans (s21.trans (s22.trans (s23.trans s24)))
    exact q _ (B19.trans (But.of sE)) (b19.same sE)
end
end LT

namespace LT
open PySem PySem.Spec PyProof.Rows L2
theorem script_at {ns : List Int} {lo hi : Option Int} {i : Nat} {x : V} (h : (cutV (ns.map V.int) lo hi ++ [.int 0])[i]? = some x) : ∃ c : Int, x = .int c := by
  have m := List.mem_of_getElem? h
  rcases List.mem_append.mp m with m | m
  · unfold cutV at m
    have m2 := List.mem_of_mem_drop (List.mem_of_mem_take m)
    obtain ⟨c, _, e⟩ := List.mem_map.mp m2
    exact ⟨c, e.symm⟩
  · exact ⟨0, List.mem_singleton.mp m⟩
theorem sqSame {K : PySem.W.Frag} {H H' : Hp} {a : Addr} {xs : List V} (h : SqL K H a xs) (e : Same H H') : SqL K H' a xs :=
  h.elim (fun h => .inl (h.elim (fun h => .inl (e _ _ h)) fun ⟨o, h⟩ => .inr ⟨o, e _ _ h⟩)) fun h => .inr h
def spLaw (K : PySem.W.Frag) : Sp := fun vs H Q _ => ∃ (a : Addr) (ns : List Int), vs = [.ref a] ∧ SqL K H a (ns.map V.int) ∧ ns.length ≤ 63 ∧ ∀ H', Q (.bl true) H'
end LT

namespace LT
open PySem PySem.Spec PyProof.Rows L2
def d5 (t : Nat) : Nat := if t ≤ 6 then 2 else if t ≤ 8 then 3 else if t ≤ 16 then 4 else 5
theorem due5 : ∀ t, t < 21 → 5 < t → due 5 (lev (pk 101 t 0).length 0 (pk 101 t 0)) = [d5 t] := by decide +kernel
theorem dp5 (t : Nat) (h1 : 5 < t) (h2 : t < 21) : dp t 5 = d5 t := by
  have a := due5 t h2 h1
  rw [due_dp h1 (by omega)] at a
  exact (List.cons.inj a).1
def told5 : Nat → List (Nat × Nat)
  | 2 => [(6, 6)]
  | 3 => [(7, 8)]
  | 4 => [(9, 16)]
  | _ => [(17, 20)]
theorem found5 (k : Nat) (h : k = 2 ∨ k = 3 ∨ k = 4 ∨ k = 5) : Found 5 21 (k : Int) (told5 k) := by
  rcases h with rfl | rfl | rfl | rfl
  · exact .inr ⟨6, 6, rfl, by decide, by decide, by decide, fun t a b => by rw [dp5 t a b]; unfold d5; (repeat' split) <;> omega⟩
  · exact .inr ⟨7, 8, rfl, by decide, by decide, by decide, fun t a b => by rw [dp5 t a b]; unfold d5; (repeat' split) <;> omega⟩
  · exact .inr ⟨9, 16, rfl, by decide, by decide, by decide, fun t a b => by rw [dp5 t a b]; unfold d5; (repeat' split) <;> omega⟩
  · exact .inr ⟨17, 20, rfl, by decide, by decide, by decide, fun t a b => by rw [dp5 t a b]; unfold d5; (repeat' split) <;> omega⟩
theorem told0 {F : List (Nat × Nat)} (h : Told 0 (10 ^ 30) 0 F) : F = [(1, 1)] := by
  have one : dp 1 0 = 0 := by unfold dp; rw [sib_one (Nat.le_refl _)]; rfl
  have two : dp 2 0 = 1 := by
    unfold dp
    have g : gp 2 = 1 := by decide +kernel
    rw [sib_low (Nat.le_refl _) (by rw [g]; decide), g, List.length_cons, sib_one (Nat.le_refl _)]
    rfl
  have := told_one (f := 1) (l := 1) h (by decide) (by decide) (by decide) (fun t a => by
    by_cases c : t = 1
    · subst c
      rw [one]
      exact ⟨fun _ => ⟨Nat.le_refl _, Nat.le_refl _⟩, fun _ => rfl⟩
    · have b := dp_grows (e := 0) (s := 2) (t := t) (by decide) (by omega)
      exact ⟨fun z => by omega, fun z => by omega⟩)
  rw [this]
  rfl
/-- a list of pairs, not the list at D -/
def Ls (D : Addr) (H : Hp) (v : V) (F : List (Nat × Nat)) : Prop := ∃ p xs, v = .ref p ∧ p ≠ D ∧ H p = some (.lst xs) ∧ All2 (Nd H) xs F
theorem Ls.same {D : Addr} {H H' : Hp} {v : V} {F : List (Nat × Nat)} (h : Ls D H v F) (s : Same H H') : Ls D H' v F := by
  obtain ⟨p, xs, e, n, hp, hx⟩ := h
  exact ⟨p, xs, e, n, s _ _ hp, hx.mono fun v x k => k.same s⟩
theorem Ls.upd {D : Addr} {H : Hp} {v : V} {F : List (Nat × Nat)} {zs : List V} {o : HO} (h : Ls D H v F) (hD : H D = some (.lst zs)) : Ls D (upd H D o) v F := by
  obtain ⟨p, xs, e, n, hp, hx⟩ := h
  exact ⟨p, xs, e, n, by rw [upd_ne n]; exact hp, hx.mono fun v x k => k.upd hD⟩
theorem ls_dp {K : PySem.W.Frag} {D : Addr} {H : Hp} : ∀ {vs : List V} {L : List (List (Nat × Nat))}, All2 (Ls D H) vs L → DpAll K H vs (L.map fun F => .list (F.map nd))
  | _, _, .nil => .nil
  | _, _, .cons ⟨p, xs, e, _, hp, hx⟩ t => by
    subst e
    exact .cons (.lst (SqL.of hp) (nds_dp hx)) (ls_dp t)
theorem lls_shaped : SeqAt.shaped (.list ([[(6, 6)], [(7, 8)], [(9, 16)], [(17, 20)]].map fun (F : List (Nat × Nat)) => PyData.list (F.map nd))) = true := by decide +kernel
theorem nd_put {H : Hp} {p : Addr} {i j : Int} {x : Nat × Nat} (h : H p = none) (h1 : i = (x.1 : Int)) (h2 : j = (x.2 : Int)) : Nd (upd H p (.tup [.int i, .int j])) (.ref p) x := ⟨p, rfl, by rw [upd_same, h1, h2]⟩
section
variable {P : Program} {w : World} {K : PySem.W.Frag} {mg : Str → Option Value} {base : Heap}
theorem ok_law {f g1 g2 g3 g4 : Addr} {fd d1 d2 d3 d4 : FuncData} (F : Fun K "law" "law" sLaw f fd)
    (GLawBag : FnOk P w K mg base CX0 1 g1 d1 ["cell"] spBag) (ALawBag : At K mg "_law_bag" g1 d1 ["cell"])
    (GLawSmallRight : GOk P w K mg base 9 g2 d2 ["bag"] spSmall) (ALawSmallRight : At K mg "_law_small_right" g2 d2 ["bag"])
    (GLawGreatRight : FnOk P w K mg base CX0 9 g3 d3 ["bag"] spSmall) (ALawGreatRight : At K mg "_law_great_right" g3 d3 ["bag"])
    (GSizesWith : FnOk P w K mg base CX0 8 g4 d4 ["entry", "number", "most"] spSizesTold) (ASizesWith : At K mg "sizes_with" g4 d4 ["entry", "number", "most"]) : GOk P w K mg base 10 f fd ["script"] (spLaw K) := by
  refine okG F scLaw (fun vs H Q E h => ?_) (fun cdv A outer s H vs Q hg hr h => ?_)
  · obtain ⟨_, _, rfl, _⟩ := h
    rfl
  obtain ⟨a, ns, rfl, hS, h63, q⟩ := h
  refine' ⟨_, (pss_cons (ps_for PassesOwn.never rfl (pi_list (pe_op op_cat (pe_slice sl_list (pv 0) po_none (po_some pe_int)) (pe_lst (pa_cons pe_int pa_nil)))) (pg_name (i := 1) scLaw.nd rfl (Or.inl rfl))
    (pss_cons (ps_set (i := 2) scLaw.nd rfl (Or.inl rfl) (pe_call GLawBag (hr.mono (by decide)) rfl ALawBag.m ALawBag.kp ALawBag.b .nil pass0 (pa_cons (pv 1) pa_nil)))
    (pss_one (ps_if (PW.pt (pw_or (pt_not (pt_val (pe_callG GLawSmallRight hg (hr.mono (by decide)) rfl ALawSmallRight.m ALawSmallRight.kp ALawSmallRight.b (pa_cons (pv 2) pa_nil)))) (pw_or (pt_not (pt_val (pe_call GLawGreatRight (hr.mono (by decide)) rfl ALawGreatRight.m ALawGreatRight.kp ALawGreatRight.b .nil pass0 (pa_cons (pv 2) pa_nil)))) (pw_or1 (pt_not (pt_val (pe_call GLawGreatRight (hr.mono (by decide)) rfl ALawGreatRight.m ALawGreatRight.kp ALawGreatRight.b .nil pass0 (pa_cons (pv 2) pa_nil))))))))
    (pss_one (ps_ret pe_bl))
    pss_nil))))
    (pss_cons ?cc1
    (pss_one (ps_ret (pe_and (pe_cmpR (op_eqD hr.units) (pv 3) (pe_lst (pa_cons (pe_lst (pa_cons (pe_tup (pa_cons pe_int (pa_cons pe_int pa_nil))) pa_nil)) (pa_cons (pe_lst (pa_cons (pe_tup (pa_cons pe_int (pa_cons pe_int pa_nil))) pa_nil)) (pa_cons (pe_lst (pa_cons (pe_tup (pa_cons pe_int (pa_cons pe_int pa_nil))) pa_nil)) (pa_cons (pe_lst (pa_cons (pe_tup (pa_cons pe_int (pa_cons pe_int pa_nil))) pa_nil)) pa_nil))))) (nomark _)) (pe_one (pe_cmpR (op_eqD hr.units) (pe_call GSizesWith (hr.mono (by decide)) rfl ASizesWith.m ASizesWith.kp ASizesWith.b .nil pass0 (pa_cons pe_int (pa_cons pe_int (pa_cons (pe_op op_pow pe_int pe_int) pa_nil)))) (pe_lst (pa_cons (pe_tup (pa_cons pe_int (pa_cons pe_int pa_nil))) pa_nil)) (nomark _)))))))), ?_⟩
  case cc1 => exact (ps_setLc (i := 3) (own := [("number", 4)]) rfl scLaw.nd rfl rfl (sw_true rfl rfl rfl (by decide +kernel)) (pi_tup (pe_tup (pa_cons pe_int (pa_cons pe_int (pa_cons pe_int (pa_cons pe_int pa_nil)))))) (blkOk_by (N := ["script", "cell", "bag", "told", "number"]) (sc := defScope sLaw) (by decide +kernel)) (fun _ _ _ _ _ => (pg_name (i := 4) scLaw.nd rfl (Or.inl rfl))) (fun _ _ _ _ _ => pts_nil) (fun _ _ _ _ _ => (pe_call GSizesWith (hr.mono (by decide)) rfl ASizesWith.m ASizesWith.kp ASizesWith.b .nil pass0 (pa_cons pe_int (pa_cons (pv 4) (pa_cons pe_int pa_nil))))))
  have two : 2 ≤ sizeLine := by decide
  refine ⟨_, rfl, 5, rfl, a, _, rfl, hS, fun c nc => ⟨(by show 1 ≤ sizeLine; decide), fun z nz => ?_⟩⟩
  have s1 := same_upd (o := .lst (cutV (ns.map V.int) none (some 5))) nc
  have s2 := same_upd (o := .lst [.int 0]) nz
  have hcl := cutV_length (ns.map V.int) none (some 5)
  rw [List.length_map] at hcl
  refine ⟨c, z, _, _, rfl, rfl, s2 _ _ upd_same, upd_same, szle (by rw [List.length_singleton]; omega), fun r nr => ?_⟩
  have hr0 : (upd (upd (upd H c (.lst (cutV (ns.map V.int) none (some 5)))) z (.lst [.int 0])) r (.lst (cutV (ns.map V.int) none (some 5) ++ [.int 0]))) r = some (.lst (cutV (ns.map V.int) none (some 5) ++ [.int 0])) := upd_same
  generalize upd (upd (upd H c (.lst (cutV (ns.map V.int) none (some 5)))) z (.lst [.int 0])) r (.lst (cutV (ns.map V.int) none (some 5) ++ [.int 0])) = H0 at hr0
  refine ⟨r, rfl, ⟨_, SqL.of hr0⟩, for_list (K := K) (a := r) (xs := cutV (ns.map V.int) none (some 5) ++ [.int 0]) (fun i σ H' => ∃ v1 v2 : Option V, σ = [some (.ref a), v1, v2, none, none] ∧ Same H0 H')
    ⟨none, none, rfl, Same.refl _⟩ (fun i σ H' _ ⟨_, _, _, s5⟩ => SqL.of (s5 _ _ hr0)) ?_ ?_⟩
  · rintro i x σ H1 hi ⟨v1, v2, rfl, sm1⟩
    obtain ⟨cell, rfl⟩ := script_at hi
    refine ⟨_, rfl, cell, rfl, fun H2 b sm2 nb hb => ?_⟩
    have nb0 : H0 b = none := sm1.free nb
    refine ⟨_, rfl, b, rfl, hb, fun H3 B3 hb3 => ⟨true, rfl, ?_⟩⟩
    refine ⟨_, rfl, b, rfl, hb3, fun H4 B4 hb4 => ⟨true, rfl, ?_⟩⟩
    refine ⟨_, rfl, b, rfl, hb4, fun H5 B5 hb5 => ⟨true, rfl, ?_⟩⟩
    exact ⟨_, _, rfl, fun u o k => B5 _ _ (ne_of_none k nb0) (B4 _ _ (ne_of_none k nb0) (B3 _ _ (ne_of_none k nb0) (sm2 _ _ (sm1 _ _ k))))⟩
  · rintro σ H1 ⟨v1, v2, rfl, sm1⟩
    refine ⟨(by show 4 ≤ sizeLine; decide), fun tp ntp => ?_⟩
    have ht : (upd H1 tp (.tup [.int 2, .int 3, .int 4, .int 5])) tp = some (.tup ([2, 3, 4, 5].map fun (k : Nat) => V.int (k : Int))) := upd_same
    generalize upd H1 tp (.tup [.int 2, .int 3, .int 4, .int 5]) = H2 at ht
    refine ⟨tp, rfl, ⟨_, SqT.of ht⟩, fun D nD => lc_tup (xs := [2, 3, 4, 5].map fun (k : Nat) => V.int (k : Int)) (fun i H' => ∃ zs : List V, Same H2 H' ∧ H' D = some (.lst zs) ∧ All2 (Ls D H') zs (([2, 3, 4, 5].take i).map told5)) ⟨[], same_upd nD, upd_same, .nil⟩ (fun i H' _ ⟨_, k, _⟩ => SqT.of (k _ _ ht)) ?_ ?_⟩
    · rintro i x H3 hi ⟨zs, s3, hD, hz⟩
      rw [List.getElem?_map] at hi
      obtain ⟨k, hk, rfl⟩ := Option.map_eq_some_iff.mp hi
      have k4 : k = 2 ∨ k = 3 ∨ k = 4 ∨ k = 5 := by simpa using List.mem_of_getElem? hk
      refine ⟨rfl, ?_⟩
      refine ⟨_, rfl, 5, 20, (k : Int), rfl, by decide, by decide, by decide, fun H4 p ys G s4 np hp hy _ hT => ?_⟩
      have eG := told_found hT (found5 k k4)
      subst eG
      have hD4 := s4 _ _ hD
      have pD : p ≠ D := fun z => by rw [z, hD] at np; cases np
      have zl : zs.length ≤ 4 := by
        rw [hz.len, List.length_map, List.length_take]
        exact Nat.le_trans (Nat.min_le_right _ _) (by decide)
      refine ⟨_, hD4, szlt (by omega), zs ++ [.ref p], ?_, upd_same, ?_⟩
      · exact fun a o k => by rw [upd_ne (ne_of_none k nD)]; exact s4 _ _ (s3 _ _ k)
      · rw [take_more hk, List.map_append]
        exact (hz.mono fun v F (k : Ls D H3 v F) => (k.same s4).upd hD4).app (.cons (Ls.upd ⟨p, ys, rfl, pD, hp, hy⟩ hD4) .nil)
    rintro H3 ⟨zs, s3, hD, hz⟩
    have hz : All2 (Ls D H3) zs [[(6, 6)], [(7, 8)], [(9, 16)], [(17, 20)]] := hz
    refine ⟨_, rfl, two, fun t1 n1 => ⟨(by show 1 ≤ sizeLine; decide), fun l1 m1 => ⟨two, fun t2 n2 => ⟨(by show 1 ≤ sizeLine; decide), fun l2 m2 => ⟨two, fun t3 n3 => ⟨(by show 1 ≤ sizeLine; decide), fun l3 m3 => ⟨two, fun t4 n4 => ⟨(by show 1 ≤ sizeLine; decide), fun l4 m4 => ⟨(by show 4 ≤ sizeLine; decide), fun l5 m5 => ?_⟩⟩⟩⟩⟩⟩⟩⟩⟩
    have u1 := same_upd (o := .tup [.int 6, .int 6]) n1
    have w1 := same_upd (o := .lst [.ref t1]) m1
    have u2 := same_upd (o := .tup [.int 7, .int 8]) n2
    have w2 := same_upd (o := .lst [.ref t2]) m2
    have u3 := same_upd (o := .tup [.int 9, .int 16]) n3
    have w3 := same_upd (o := .lst [.ref t3]) m3
    have u4 := same_upd (o := .tup [.int 17, .int 20]) n4
    have w4 := same_upd (o := .lst [.ref t4]) m4
    have w5 := same_upd (o := .lst [.ref l1, .ref l2, .ref l3, .ref l4]) m5
    have a4 := w4.trans w5
    have a3 := (w3.trans u4).trans a4
    have a2 := (w2.trans u3).trans a3
    have a1 := (w1.trans u2).trans a2
    have b3 := u4.trans a4
    have b2 := u3.trans a3
    have b1 := u2.trans a2
    have c0 := u1.trans a1
    refine ⟨.list ([[(6, 6)], [(7, 8)], [(9, 16)], [(17, 20)]].map fun (F : List (Nat × Nat)) => PyData.list (F.map nd)), .list ([[(6, 6)], [(7, 8)], [(9, 16)], [(17, 20)]].map fun (F : List (Nat × Nat)) => PyData.list (F.map nd)), .lst (SqL.of (c0 _ _ hD)) (ls_dp (hz.mono fun v F k => k.same c0)), ?_, lls_shaped, lls_shaped, ?_⟩
    · refine .lst (SqL.of upd_same) (.cons (.lst (SqL.of (b1 _ _ upd_same)) (nds_dp (.cons ((nd_put n1 rfl rfl).same a1) .nil))) (.cons (.lst (SqL.of (b2 _ _ upd_same)) (nds_dp (.cons ((nd_put n2 rfl rfl).same a2) .nil))) (.cons (.lst (SqL.of (b3 _ _ upd_same)) (nds_dp (.cons ((nd_put n3 rfl rfl).same a3) .nil))) (.cons (.lst (SqL.of (w5 _ _ upd_same)) (nds_dp (.cons ((nd_put n4 rfl rfl).same a4) .nil))) .nil))))
    rw [SeqAt.eqv_refl _ (SeqAt.canLay_of_shaped lls_shaped)]
    refine ⟨true, rfl, ?_⟩
    have e30 : (10 : Int) ^ (30 : Int).toNat = ((10 ^ 30 : Nat) : Int) := by decide
    refine ⟨_, _, rfl, rfl, ⟨by decide, by decide, by decide⟩, 0, 10 ^ 30, 0, congrArg (fun z => [V.int 0, V.int 0, V.int z]) e30, by decide, by decide, by decide, fun H5 p ys G s5 np hp hy _ hT => ?_⟩
    have eG := told0 hT
    subst eG
    refine ⟨two, fun t6 n6 => ⟨(by show 1 ≤ sizeLine; decide), fun l6 m6 => ?_⟩⟩
    have u6 := same_upd (o := .tup [.int 1, .int 1]) n6
    have w6 := same_upd (o := .lst [.ref t6]) m6
    have sh := nds_shaped [(1, 1)]
    refine ⟨.list ([(1, 1)].map nd), .list ([(1, 1)].map nd), .lst (SqL.of (w6 _ _ (u6 _ _ hp))) (nds_dp (hy.mono fun v x k => (k.same u6).same w6)), .lst (SqL.of upd_same) (nds_dp (.cons ((nd_put n6 rfl rfl).same w6) .nil)), sh, sh, ?_⟩
    rw [SeqAt.eqv_refl _ (SeqAt.canLay_of_shaped sh)]
    exact q _
end
end LT

namespace LT
open PySem PySem.Spec PyProof.Rows L2
theorem all_mk {l : PySem.W.OpenLaw} {w : World} {K : PySem.W.Frag} {h : Heap} {mg : Str → Option Value} {fa f0 f1 f2 f3 f4 f5 f6 f7 f8 f9 f10 f11 f12 f13 f14 f15 f16 f17 f18 f19 f20 : Addr} (X : K.In h) (G : h.Ns mainGlobals mg) (hfa : mg "law" = some (.ref fa))
    {od0 an0 od1 an1 od2 an2 od3 an3 od4 an4 od5 an5 od6 an6 od7 an7 od8 an8 od9 an9 od10 an10 od11 an11 od12 an12 od13 an13 od14 an14 od15 an15 od16 an16 od17 an17 od18 an18 od19 an19 od20 an20 : Option Addr} {sl0 sl1 sl2 sl3 sl4 sl5 sl6 sl7 sl8 sl9 sl10 sl11 sl12 sl13 sl14 sl15 sl16 sl17 sl18 sl19 sl20 : Array (Option Value)} {oc0 kV0 dc0 pm0 cd0 ct0 oc1 kV1 dc1 pm1 cd1 ct1 oc2 kV2 dc2 pm2 cd2 ct2 oc3 kV3 dc3 pm3 cd3 ct3 oc4 kV4 dc4 pm4 cd4 ct4 oc5 kV5 dc5 pm5 cd5 ct5 oc6 kV6 dc6 pm6 cd6 ct6 oc7 kV7 dc7 pm7 cd7 ct7 oc8 kV8 dc8 pm8 cd8 ct8 oc9 kV9 dc9 pm9 cd9 ct9 oc10 kV10 dc10 pm10 cd10 ct10 oc11 kV11 dc11 pm11 cd11 ct11 oc12 kV12 dc12 pm12 cd12 ct12 oc13 kV13 dc13 pm13 cd13 ct13 oc14 kV14 dc14 pm14 cd14 ct14 oc15 kV15 dc15 pm15 cd15 ct15 oc16 kV16 dc16 pm16 cd16 ct16 oc17 kV17 dc17 pm17 cd17 ct17 oc18 kV18 dc18 pm18 cd18 ct18 oc19 kV19 dc19 pm19 cd19 ct19 oc20 kV20 dc20 pm20 cd20 ct20 : Value}
    (a0 : PySem.W.nsIn K mainGlobals "is_whole" = some (some (.ref f0))) (l0 : K.lookup f0 = some ⟨oc0, od0, .func (PySem.W.fnOf "is_whole" "is_whole" (defArgs sIsWhole) (defBody sIsWhole) (defScope sIsWhole) .none kV0 dc0 pm0 an0 cd0 ct0), sl0⟩) (c0 : PySem.W.codeIn K cd0 "is_whole" = true) (k0 : PySem.W.keepIn K (.ref f0) = true)
    (a1 : PySem.W.nsIn K mainGlobals "is_between" = some (some (.ref f1))) (l1 : K.lookup f1 = some ⟨oc1, od1, .func (PySem.W.fnOf "is_between" "is_between" (defArgs sIsBetween) (defBody sIsBetween) (defScope sIsBetween) .none kV1 dc1 pm1 an1 cd1 ct1), sl1⟩) (c1 : PySem.W.codeIn K cd1 "is_between" = true) (k1 : PySem.W.keepIn K (.ref f1) = true)
    (a2 : PySem.W.nsIn K mainGlobals "is_tree_node" = some (some (.ref f2))) (l2 : K.lookup f2 = some ⟨oc2, od2, .func (PySem.W.fnOf "is_tree_node" "is_tree_node" (defArgs sIsTreeNode) (defBody sIsTreeNode) (defScope sIsTreeNode) .none kV2 dc2 pm2 an2 cd2 ct2), sl2⟩) (c2 : PySem.W.codeIn K cd2 "is_tree_node" = true) (k2 : PySem.W.keepIn K (.ref f2) = true)
    (a3 : PySem.W.nsIn K mainGlobals "check_size" = some (some (.ref f3))) (l3 : K.lookup f3 = some ⟨oc3, od3, .func (PySem.W.fnOf "check_size" "check_size" (defArgs sCheckSize) (defBody sCheckSize) (defScope sCheckSize) .none kV3 dc3 pm3 an3 cd3 ct3), sl3⟩) (c3 : PySem.W.codeIn K cd3 "check_size" = true) (k3 : PySem.W.keepIn K (.ref f3) = true)
    (a4 : PySem.W.nsIn K mainGlobals "check_entry" = some (some (.ref f4))) (l4 : K.lookup f4 = some ⟨oc4, od4, .func (PySem.W.fnOf "check_entry" "check_entry" (defArgs sCheckEntry) (defBody sCheckEntry) (defScope sCheckEntry) .none kV4 dc4 pm4 an4 cd4 ct4), sl4⟩) (c4 : PySem.W.codeIn K cd4 "check_entry" = true) (k4 : PySem.W.keepIn K (.ref f4) = true)
    (a5 : PySem.W.nsIn K mainGlobals "check_node" = some (some (.ref f5))) (l5 : K.lookup f5 = some ⟨oc5, od5, .func (PySem.W.fnOf "check_node" "check_node" (defArgs sCheckNode) (defBody sCheckNode) (defScope sCheckNode) .none kV5 dc5 pm5 an5 cd5 ct5), sl5⟩) (c5 : PySem.W.codeIn K cd5 "check_node" = true) (k5 : PySem.W.keepIn K (.ref f5) = true)
    (a6 : PySem.W.nsIn K mainGlobals "check_number" = some (some (.ref f6))) (l6 : K.lookup f6 = some ⟨oc6, od6, .func (PySem.W.fnOf "check_number" "check_number" (defArgs sCheckNumber) (defBody sCheckNumber) (defScope sCheckNumber) .none kV6 dc6 pm6 an6 cd6 ct6), sl6⟩) (c6 : PySem.W.codeIn K cd6 "check_number" = true) (k6 : PySem.W.keepIn K (.ref f6) = true)
    (a7 : PySem.W.nsIn K mainGlobals "power_within" = some (some (.ref f7))) (l7 : K.lookup f7 = some ⟨oc7, od7, .func (PySem.W.fnOf "power_within" "power_within" (defArgs sPowerWithin) (defBody sPowerWithin) (defScope sPowerWithin) .none kV7 dc7 pm7 an7 cd7 ct7), sl7⟩) (c7 : PySem.W.codeIn K cd7 "power_within" = true) (k7 : PySem.W.keepIn K (.ref f7) = true)
    (a8 : PySem.W.nsIn K mainGlobals "halves" = some (some (.ref f8))) (l8 : K.lookup f8 = some ⟨oc8, od8, .func (PySem.W.fnOf "halves" "halves" (defArgs sHalves) (defBody sHalves) (defScope sHalves) .none kV8 dc8 pm8 an8 cd8 ct8), sl8⟩) (c8 : PySem.W.codeIn K cd8 "halves" = true) (k8 : PySem.W.keepIn K (.ref f8) = true)
    (a9 : PySem.W.nsIn K mainGlobals "depth" = some (some (.ref f9))) (l9 : K.lookup f9 = some ⟨oc9, od9, .func (PySem.W.fnOf "depth" "depth" (defArgs sDepth) (defBody sDepth) (defScope sDepth) .none kV9 dc9 pm9 an9 cd9 ct9), sl9⟩) (c9 : PySem.W.codeIn K cd9 "depth" = true) (k9 : PySem.W.keepIn K (.ref f9) = true)
    (a10 : PySem.W.nsIn K mainGlobals "path" = some (some (.ref f10))) (l10 : K.lookup f10 = some ⟨oc10, od10, .func (PySem.W.fnOf "path" "path" (defArgs sPath) (defBody sPath) (defScope sPath) .none kV10 dc10 pm10 an10 cd10 ct10), sl10⟩) (c10 : PySem.W.codeIn K cd10 "path" = true) (k10 : PySem.W.keepIn K (.ref f10) = true)
    (a11 : PySem.W.nsIn K mainGlobals "_next_end" = some (some (.ref f11))) (l11 : K.lookup f11 = some ⟨oc11, od11, .func (PySem.W.fnOf "_next_end" "_next_end" (defArgs sNextEnd) (defBody sNextEnd) (defScope sNextEnd) .none kV11 dc11 pm11 an11 cd11 ct11), sl11⟩) (c11 : PySem.W.codeIn K cd11 "_next_end" = true) (k11 : PySem.W.keepIn K (.ref f11) = true)
    (a12 : PySem.W.nsIn K mainGlobals "sizes_with" = some (some (.ref f12))) (l12 : K.lookup f12 = some ⟨oc12, od12, .func (PySem.W.fnOf "sizes_with" "sizes_with" (defArgs sSizesWith) (defBody sSizesWith) (defScope sSizesWith) .none kV12 dc12 pm12 an12 cd12 ct12), sl12⟩) (c12 : PySem.W.codeIn K cd12 "sizes_with" = true) (k12 : PySem.W.keepIn K (.ref f12) = true)
    (a13 : PySem.W.nsIn K mainGlobals "_law_bag" = some (some (.ref f13))) (l13 : K.lookup f13 = some ⟨oc13, od13, .func (PySem.W.fnOf "_law_bag" "_law_bag" (defArgs sLawBag) (defBody sLawBag) (defScope sLawBag) .none kV13 dc13 pm13 an13 cd13 ct13), sl13⟩) (c13 : PySem.W.codeIn K cd13 "_law_bag" = true) (k13 : PySem.W.keepIn K (.ref f13) = true)
    (a14 : PySem.W.nsIn K mainGlobals "_law_pick" = some (some (.ref f14))) (l14 : K.lookup f14 = some ⟨oc14, od14, .func (PySem.W.fnOf "_law_pick" "_law_pick" (defArgs sLawPick) (defBody sLawPick) (defScope sLawPick) .none kV14 dc14 pm14 an14 cd14 ct14), sl14⟩) (c14 : PySem.W.codeIn K cd14 "_law_pick" = true) (k14 : PySem.W.keepIn K (.ref f14) = true)
    (a15 : PySem.W.nsIn K mainGlobals "_law_peaks" = some (some (.ref f15))) (l15 : K.lookup f15 = some ⟨oc15, od15, .func (PySem.W.fnOf "_law_peaks" "_law_peaks" (defArgs sLawPeaks) (defBody sLawPeaks) (defScope sLawPeaks) .none kV15 dc15 pm15 an15 cd15 ct15), sl15⟩) (c15 : PySem.W.codeIn K cd15 "_law_peaks" = true) (k15 : PySem.W.keepIn K (.ref f15) = true)
    (a16 : PySem.W.nsIn K mainGlobals "_law_levels" = some (some (.ref f16))) (l16 : K.lookup f16 = some ⟨oc16, od16, .func (PySem.W.fnOf "_law_levels" "_law_levels" (defArgs sLawLevels) (defBody sLawLevels) (defScope sLawLevels) .none kV16 dc16 pm16 an16 cd16 ct16), sl16⟩) (c16 : PySem.W.codeIn K cd16 "_law_levels" = true) (k16 : PySem.W.keepIn K (.ref f16) = true)
    (a17 : PySem.W.nsIn K mainGlobals "_law_depth" = some (some (.ref f17))) (l17 : K.lookup f17 = some ⟨oc17, od17, .func (PySem.W.fnOf "_law_depth" "_law_depth" (defArgs sLawDepth) (defBody sLawDepth) (defScope sLawDepth) .none kV17 dc17 pm17 an17 cd17 ct17), sl17⟩) (c17 : PySem.W.codeIn K cd17 "_law_depth" = true) (k17 : PySem.W.keepIn K (.ref f17) = true)
    (a18 : PySem.W.nsIn K mainGlobals "_law_small_right" = some (some (.ref f18))) (l18 : K.lookup f18 = some ⟨oc18, od18, .func (PySem.W.fnOf "_law_small_right" "_law_small_right" (defArgs sLawSmallRight) (defBody sLawSmallRight) (defScope sLawSmallRight) .none kV18 dc18 pm18 an18 cd18 ct18), sl18⟩) (c18 : PySem.W.codeIn K cd18 "_law_small_right" = true) (k18 : PySem.W.keepIn K (.ref f18) = true)
    (a19 : PySem.W.nsIn K mainGlobals "_law_great_right" = some (some (.ref f19))) (l19 : K.lookup f19 = some ⟨oc19, od19, .func (PySem.W.fnOf "_law_great_right" "_law_great_right" (defArgs sLawGreatRight) (defBody sLawGreatRight) (defScope sLawGreatRight) .none kV19 dc19 pm19 an19 cd19 ct19), sl19⟩) (c19 : PySem.W.codeIn K cd19 "_law_great_right" = true) (k19 : PySem.W.keepIn K (.ref f19) = true)
    (a20 : PySem.W.nsIn K mainGlobals "law" = some (some (.ref f20))) (l20 : K.lookup f20 = some ⟨oc20, od20, .func (PySem.W.fnOf "law" "law" (defArgs sLaw) (defBody sLaw) (defScope sLaw) .none kV20 dc20 pm20 an20 cd20 ct20), sl20⟩) (c20 : PySem.W.codeIn K cd20 "law" = true) (k20 : PySem.W.keepIn K (.ref f20) = true)
    (z_bool : PySem.W.nsIn K mainGlobals "bool" = some none)
    (z_enumerate : PySem.W.nsIn K mainGlobals "enumerate" = some none)
    (z_int : PySem.W.nsIn K mainGlobals "int" = some none)
    (z_isinstance : PySem.W.nsIn K mainGlobals "isinstance" = some none)
    (z_len : PySem.W.nsIn K mainGlobals "len" = some none)
    (z_max : PySem.W.nsIn K mainGlobals "max" = some none)
    (z_min : PySem.W.nsIn K mainGlobals "min" = some none)
    (z_range : PySem.W.nsIn K mainGlobals "range" = some none)
    (z_repr : PySem.W.nsIn K mainGlobals "repr" = some none)
    (z_tuple : PySem.W.nsIn K mainGlobals "tuple" = some none)
    {t_MOST_ENTRIES : Tok} (g_MOST_ENTRIES : PySem.W.nsIn K mainGlobals "MOST_ENTRIES" = some (some (.int 1000000000000000000000000000000 t_MOST_ENTRIES)))
    : ∃ fd : FuncData, (∀ (s : Shared) (v : Value), BindsTo s fd ⟨[v], []⟩ [("script", v)]) ∧ ∀ base : Heap, K.In base → base.Ns mainGlobals mg → GOk l.prog w K mg base 10 fa fd ["script"] (spLaw K) := by
  have e := hfa.symm.trans (PySem.W.mg_of X G a20)
  cases e
  have FIsWhole := fun_mk (st := sIsWhole) l0 c0 k0
  have FIsBetween := fun_mk (st := sIsBetween) l1 c1 k1
  have FIsTreeNode := fun_mk (st := sIsTreeNode) l2 c2 k2
  have FCheckSize := fun_mk (st := sCheckSize) l3 c3 k3
  have FCheckEntry := fun_mk (st := sCheckEntry) l4 c4 k4
  have FCheckNode := fun_mk (st := sCheckNode) l5 c5 k5
  have FCheckNumber := fun_mk (st := sCheckNumber) l6 c6 k6
  have FPowerWithin := fun_mk (st := sPowerWithin) l7 c7 k7
  have FHalves := fun_mk (st := sHalves) l8 c8 k8
  have FDepth := fun_mk (st := sDepth) l9 c9 k9
  have FPath := fun_mk (st := sPath) l10 c10 k10
  have FNextEnd := fun_mk (st := sNextEnd) l11 c11 k11
  have FSizesWith := fun_mk (st := sSizesWith) l12 c12 k12
  have FLawBag := fun_mk (st := sLawBag) l13 c13 k13
  have FLawPick := fun_mk (st := sLawPick) l14 c14 k14
  have FLawPeaks := fun_mk (st := sLawPeaks) l15 c15 k15
  have FLawLevels := fun_mk (st := sLawLevels) l16 c16 k16
  have FLawDepth := fun_mk (st := sLawDepth) l17 c17 k17
  have FLawSmallRight := fun_mk (st := sLawSmallRight) l18 c18 k18
  have FLawGreatRight := fun_mk (st := sLawGreatRight) l19 c19 k19
  have FLaw := fun_mk (st := sLaw) l20 c20 k20
  have AIsWhole : At K mg "is_whole" f0 (PySem.W.fnOf "is_whole" "is_whole" (defArgs sIsWhole) (defBody sIsWhole) (defScope sIsWhole) .none kV0 dc0 pm0 an0 cd0 ct0) ["value"] := ⟨PySem.W.mg_of X G a0, k0, FIsWhole.binds (ps := ["value"]) fun _ _ _ _ _ _ us hl => match us, hl with | [_], _ => rfl⟩
  have AIsBetween : At K mg "is_between" f1 (PySem.W.fnOf "is_between" "is_between" (defArgs sIsBetween) (defBody sIsBetween) (defScope sIsBetween) .none kV1 dc1 pm1 an1 cd1 ct1) ["value", "low", "high"] := ⟨PySem.W.mg_of X G a1, k1, FIsBetween.binds (ps := ["value", "low", "high"]) fun _ _ _ _ _ _ us hl => match us, hl with | [_, _, _], _ => rfl⟩
  have AIsTreeNode : At K mg "is_tree_node" f2 (PySem.W.fnOf "is_tree_node" "is_tree_node" (defArgs sIsTreeNode) (defBody sIsTreeNode) (defScope sIsTreeNode) .none kV2 dc2 pm2 an2 cd2 ct2) ["size", "value"] := ⟨PySem.W.mg_of X G a2, k2, FIsTreeNode.binds (ps := ["size", "value"]) fun _ _ _ _ _ _ us hl => match us, hl with | [_, _], _ => rfl⟩
  have ACheckSize : At K mg "check_size" f3 (PySem.W.fnOf "check_size" "check_size" (defArgs sCheckSize) (defBody sCheckSize) (defScope sCheckSize) .none kV3 dc3 pm3 an3 cd3 ct3) ["size"] := ⟨PySem.W.mg_of X G a3, k3, FCheckSize.binds (ps := ["size"]) fun _ _ _ _ _ _ us hl => match us, hl with | [_], _ => rfl⟩
  have ACheckEntry : At K mg "check_entry" f4 (PySem.W.fnOf "check_entry" "check_entry" (defArgs sCheckEntry) (defBody sCheckEntry) (defScope sCheckEntry) .none kV4 dc4 pm4 an4 cd4 ct4) ["size", "entry"] := ⟨PySem.W.mg_of X G a4, k4, FCheckEntry.binds (ps := ["size", "entry"]) fun _ _ _ _ _ _ us hl => match us, hl with | [_, _], _ => rfl⟩
  have ACheckNode : At K mg "check_node" f5 (PySem.W.fnOf "check_node" "check_node" (defArgs sCheckNode) (defBody sCheckNode) (defScope sCheckNode) .none kV5 dc5 pm5 an5 cd5 ct5) ["size", "node"] := ⟨PySem.W.mg_of X G a5, k5, FCheckNode.binds (ps := ["size", "node"]) fun _ _ _ _ _ _ us hl => match us, hl with | [_, _], _ => rfl⟩
  have ACheckNumber : At K mg "check_number" f6 (PySem.W.fnOf "check_number" "check_number" (defArgs sCheckNumber) (defBody sCheckNumber) (defScope sCheckNumber) .none kV6 dc6 pm6 an6 cd6 ct6) ["number"] := ⟨PySem.W.mg_of X G a6, k6, FCheckNumber.binds (ps := ["number"]) fun _ _ _ _ _ _ us hl => match us, hl with | [_], _ => rfl⟩
  have APowerWithin : At K mg "power_within" f7 (PySem.W.fnOf "power_within" "power_within" (defArgs sPowerWithin) (defBody sPowerWithin) (defScope sPowerWithin) .none kV7 dc7 pm7 an7 cd7 ct7) ["number"] := ⟨PySem.W.mg_of X G a7, k7, FPowerWithin.binds (ps := ["number"]) fun _ _ _ _ _ _ us hl => match us, hl with | [_], _ => rfl⟩
  have AHalves : At K mg "halves" f8 (PySem.W.fnOf "halves" "halves" (defArgs sHalves) (defBody sHalves) (defScope sHalves) .none kV8 dc8 pm8 an8 cd8 ct8) ["size", "node"] := ⟨PySem.W.mg_of X G a8, k8, FHalves.binds (ps := ["size", "node"]) fun _ _ _ _ _ _ us hl => match us, hl with | [_, _], _ => rfl⟩
  have ADepth : At K mg "depth" f9 (PySem.W.fnOf "depth" "depth" (defArgs sDepth) (defBody sDepth) (defScope sDepth) .none kV9 dc9 pm9 an9 cd9 ct9) ["size", "entry"] := ⟨PySem.W.mg_of X G a9, k9, FDepth.binds (ps := ["size", "entry"]) fun _ _ _ _ _ _ us hl => match us, hl with | [_, _], _ => rfl⟩
  have APath : At K mg "path" f10 (PySem.W.fnOf "path" "path" (defArgs sPath) (defBody sPath) (defScope sPath) .none kV10 dc10 pm10 an10 cd10 ct10) ["size", "entry"] := ⟨PySem.W.mg_of X G a10, k10, FPath.binds (ps := ["size", "entry"]) fun _ _ _ _ _ _ us hl => match us, hl with | [_, _], _ => rfl⟩
  have ANextEnd : At K mg "_next_end" f11 (PySem.W.fnOf "_next_end" "_next_end" (defArgs sNextEnd) (defBody sNextEnd) (defScope sNextEnd) .none kV11 dc11 pm11 an11 cd11 ct11) ["entry", "end"] := ⟨PySem.W.mg_of X G a11, k11, FNextEnd.binds (ps := ["entry", "end"]) fun _ _ _ _ _ _ us hl => match us, hl with | [_, _], _ => rfl⟩
  have ASizesWith : At K mg "sizes_with" f12 (PySem.W.fnOf "sizes_with" "sizes_with" (defArgs sSizesWith) (defBody sSizesWith) (defScope sSizesWith) .none kV12 dc12 pm12 an12 cd12 ct12) ["entry", "number", "most"] := ⟨PySem.W.mg_of X G a12, k12, FSizesWith.binds (ps := ["entry", "number", "most"]) fun _ _ _ _ _ _ us hl => match us, hl with | [_, _, _], _ => rfl⟩
  have ALawBag : At K mg "_law_bag" f13 (PySem.W.fnOf "_law_bag" "_law_bag" (defArgs sLawBag) (defBody sLawBag) (defScope sLawBag) .none kV13 dc13 pm13 an13 cd13 ct13) ["cell"] := ⟨PySem.W.mg_of X G a13, k13, FLawBag.binds (ps := ["cell"]) fun _ _ _ _ _ _ us hl => match us, hl with | [_], _ => rfl⟩
  have ALawPick : At K mg "_law_pick" f14 (PySem.W.fnOf "_law_pick" "_law_pick" (defArgs sLawPick) (defBody sLawPick) (defScope sLawPick) .none kV14 dc14 pm14 an14 cd14 ct14) ["bag", "many"] := ⟨PySem.W.mg_of X G a14, k14, FLawPick.binds (ps := ["bag", "many"]) fun _ _ _ _ _ _ us hl => match us, hl with | [_, _], _ => rfl⟩
  have ALawPeaks : At K mg "_law_peaks" f15 (PySem.W.fnOf "_law_peaks" "_law_peaks" (defArgs sLawPeaks) (defBody sLawPeaks) (defScope sLawPeaks) .none kV15 dc15 pm15 an15 cd15 ct15) ["size"] := ⟨PySem.W.mg_of X G a15, k15, FLawPeaks.binds (ps := ["size"]) fun _ _ _ _ _ _ us hl => match us, hl with | [_], _ => rfl⟩
  have ALawLevels : At K mg "_law_levels" f16 (PySem.W.fnOf "_law_levels" "_law_levels" (defArgs sLawLevels) (defBody sLawLevels) (defScope sLawLevels) .none kV16 dc16 pm16 an16 cd16 ct16) ["size"] := ⟨PySem.W.mg_of X G a16, k16, FLawLevels.binds (ps := ["size"]) fun _ _ _ _ _ _ us hl => match us, hl with | [_], _ => rfl⟩
  have ALawDepth : At K mg "_law_depth" f17 (PySem.W.fnOf "_law_depth" "_law_depth" (defArgs sLawDepth) (defBody sLawDepth) (defScope sLawDepth) .none kV17 dc17 pm17 an17 cd17 ct17) ["size", "entry"] := ⟨PySem.W.mg_of X G a17, k17, FLawDepth.binds (ps := ["size", "entry"]) fun _ _ _ _ _ _ us hl => match us, hl with | [_, _], _ => rfl⟩
  have ALawSmallRight : At K mg "_law_small_right" f18 (PySem.W.fnOf "_law_small_right" "_law_small_right" (defArgs sLawSmallRight) (defBody sLawSmallRight) (defScope sLawSmallRight) .none kV18 dc18 pm18 an18 cd18 ct18) ["bag"] := ⟨PySem.W.mg_of X G a18, k18, FLawSmallRight.binds (ps := ["bag"]) fun _ _ _ _ _ _ us hl => match us, hl with | [_], _ => rfl⟩
  have ALawGreatRight : At K mg "_law_great_right" f19 (PySem.W.fnOf "_law_great_right" "_law_great_right" (defArgs sLawGreatRight) (defBody sLawGreatRight) (defScope sLawGreatRight) .none kV19 dc19 pm19 an19 cd19 ct19) ["bag"] := ⟨PySem.W.mg_of X G a19, k19, FLawGreatRight.binds (ps := ["bag"]) fun _ _ _ _ _ _ us hl => match us, hl with | [_], _ => rfl⟩
  have z_bool := PySem.W.mg_none_of X G z_bool
  have z_enumerate := PySem.W.mg_none_of X G z_enumerate
  have z_int := PySem.W.mg_none_of X G z_int
  have z_isinstance := PySem.W.mg_none_of X G z_isinstance
  have z_len := PySem.W.mg_none_of X G z_len
  have z_max := PySem.W.mg_none_of X G z_max
  have z_min := PySem.W.mg_none_of X G z_min
  have z_range := PySem.W.mg_none_of X G z_range
  have z_repr := PySem.W.mg_none_of X G z_repr
  have z_tuple := PySem.W.mg_none_of X G z_tuple
  have g_MOST_ENTRIES := PySem.W.mg_of X G g_MOST_ENTRIES
  refine ⟨PySem.W.fnOf "law" "law" (defArgs sLaw) (defBody sLaw) (defScope sLaw) .none kV20 dc20 pm20 an20 cd20 ct20, fun s v => .of_eq rfl, fun base _ _ => ?_⟩
  have GIsWhole := ok_is_whole (P := l.prog) (w := w) (base := base) FIsWhole z_isinstance z_int z_bool
  have GIsBetween := ok_is_between FIsBetween GIsWhole AIsWhole
  have GIsTreeNode := ok_is_tree_node FIsTreeNode GIsBetween AIsBetween z_isinstance z_tuple z_len
  have GCheckSize := ok_check_size FCheckSize GIsBetween AIsBetween g_MOST_ENTRIES
  have GCheckEntry := ok_check_entry FCheckEntry GIsBetween AIsBetween
  have GCheckNode := ok_check_node FCheckNode GIsTreeNode AIsTreeNode
  have GCheckNumber := ok_check_number FCheckNumber GIsWhole AIsWhole
  have GPowerWithin := ok_power_within (P := l.prog) (w := w) (mg := mg) (base := base) FPowerWithin
  have GHalves := ok_halves FHalves GCheckSize ACheckSize GCheckNode ACheckNode GPowerWithin APowerWithin
  have GPath := ok_path FPath GCheckSize ACheckSize GCheckEntry ACheckEntry GHalves AHalves
  have GDepth := ok_depth FDepth GPath APath z_len
  have GNextEnd := ok_next_end (P := l.prog) (w := w) (mg := mg) (base := base) FNextEnd
  have GSizes0 := ok_sizes_with FSizesWith GCheckEntry ACheckEntry GCheckNumber ACheckNumber GCheckSize ACheckSize GDepth ADepth GNextEnd ANextEnd g_MOST_ENTRIES z_min
  have GSizesWith := sizes_told GSizes0
  have GLawBag := ok_law_bag (P := l.prog) (w := w) (base := base) FLawBag z_max
  have GLawPick := ok_law_pick (P := l.prog) (w := w) (base := base) FLawPick z_int
  have GLawPeaks := ok_law_peaks (P := l.prog) (w := w) (base := base) FLawPeaks z_range
  have GLawLevels := ok_law_levels FLawLevels GLawPeaks ALawPeaks z_max z_min z_range z_enumerate z_len
  have GLawDepth := ok_law_depth FLawDepth GLawLevels ALawLevels
  have GLawSmallRight := ok_law_small_right FLawSmallRight GLawPick ALawPick GLawDepth ALawDepth GSizesWith ASizesWith z_range z_repr
  have GLawGreatRight := ok_law_great_right FLawGreatRight GLawPick ALawPick GLawDepth ALawDepth GSizesWith ASizesWith z_range z_max z_min z_int
  exact ok_law FLaw GLawBag ALawBag GLawSmallRight ALawSmallRight GLawGreatRight ALawGreatRight GSizesWith ASizesWith
end LT
open PySem PySem.W PyProof.Rows
set_option maxRecDepth 100000 in
set_option maxHeartbeats 0 in
theorem PySem.Challenge.cw_logtrees_k08_sizes_with_a_depth_holds : PySem.Challenge.rw_logtrees_k08_sizes_with_a_depth.Holds := by
  w_on; o_law; k_head; (case hw => w_witness2)
  k_fill
  refine LT.walkG (l := PySem.Challenge.rw_logtrees_k08_sizes_with_a_depth) (n := 63) (k := 10) (x := "script") (sp := fun w => LT.spLaw _) rfl (by decide) rfl ⟨rfl, by decide, by decide⟩ (fun w h Y => PySem.W.kIn_of Y) ?F (fun _ _ a ns hl _ hS => ⟨a, ns, rfl, hS, hl, fun _ => rfl⟩)
  case F =>
    intro w mg fa h KX G hmg
    refine' LT.all_mk KX G hmg ?a0 ?l0 ?c0 ?k0 ?a1 ?l1 ?c1 ?k1 ?a2 ?l2 ?c2 ?k2 ?a3 ?l3 ?c3 ?k3 ?a4 ?l4 ?c4 ?k4 ?a5 ?l5 ?c5 ?k5 ?a6 ?l6 ?c6 ?k6 ?a7 ?l7 ?c7 ?k7 ?a8 ?l8 ?c8 ?k8 ?a9 ?l9 ?c9 ?k9 ?a10 ?l10 ?c10 ?k10 ?a11 ?l11 ?c11 ?k11 ?a12 ?l12 ?c12 ?k12 ?a13 ?l13 ?c13 ?k13 ?a14 ?l14 ?c14 ?k14 ?a15 ?l15 ?c15 ?k15 ?a16 ?l16 ?c16 ?k16 ?a17 ?l17 ?c17 ?k17 ?a18 ?l18 ?c18 ?k18 ?a19 ?l19 ?c19 ?k19 ?a20 ?l20 ?c20 ?k20 ?z_bool ?z_enumerate ?z_int ?z_isinstance ?z_len ?z_max ?z_min ?z_range ?z_repr ?z_tuple ?g_MOST_ENTRIES
    (case a0 => k_is)
    (case l0 => k_is)
    (case c0 => k_is)
    (case k0 => k_is)
    (case a1 => k_is)
    (case l1 => k_is)
    (case c1 => k_is)
    (case k1 => k_is)
    (case a2 => k_is)
    (case l2 => k_is)
    (case c2 => k_is)
    (case k2 => k_is)
    (case a3 => k_is)
    (case l3 => k_is)
    (case c3 => k_is)
    (case k3 => k_is)
    (case a4 => k_is)
    (case l4 => k_is)
    (case c4 => k_is)
    (case k4 => k_is)
    (case a5 => k_is)
    (case l5 => k_is)
    (case c5 => k_is)
    (case k5 => k_is)
    (case a6 => k_is)
    (case l6 => k_is)
    (case c6 => k_is)
    (case k6 => k_is)
    (case a7 => k_is)
    (case l7 => k_is)
    (case c7 => k_is)
    (case k7 => k_is)
    (case a8 => k_is)
    (case l8 => k_is)
    (case c8 => k_is)
    (case k8 => k_is)
    (case a9 => k_is)
    (case l9 => k_is)
    (case c9 => k_is)
    (case k9 => k_is)
    (case a10 => k_is)
    (case l10 => k_is)
    (case c10 => k_is)
    (case k10 => k_is)
    (case a11 => k_is)
    (case l11 => k_is)
    (case c11 => k_is)
    (case k11 => k_is)
    (case a12 => k_is)
    (case l12 => k_is)
    (case c12 => k_is)
    (case k12 => k_is)
    (case a13 => k_is)
    (case l13 => k_is)
    (case c13 => k_is)
    (case k13 => k_is)
    (case a14 => k_is)
    (case l14 => k_is)
    (case c14 => k_is)
    (case k14 => k_is)
    (case a15 => k_is)
    (case l15 => k_is)
    (case c15 => k_is)
    (case k15 => k_is)
    (case a16 => k_is)
    (case l16 => k_is)
    (case c16 => k_is)
    (case k16 => k_is)
    (case a17 => k_is)
    (case l17 => k_is)
    (case c17 => k_is)
    (case k17 => k_is)
    (case a18 => k_is)
    (case l18 => k_is)
    (case c18 => k_is)
    (case k18 => k_is)
    (case a19 => k_is)
    (case l19 => k_is)
    (case c19 => k_is)
    (case k19 => k_is)
    (case a20 => k_is)
    (case l20 => k_is)
    (case c20 => k_is)
    (case k20 => k_is)
    (case z_bool => k_is)
    (case z_enumerate => k_is)
    (case z_int => k_is)
    (case z_isinstance => k_is)
    (case z_len => k_is)
    (case z_max => k_is)
    (case z_min => k_is)
    (case z_range => k_is)
    (case z_repr => k_is)
    (case z_tuple => k_is)
    (case g_MOST_ENTRIES => k_is)
