import PyProof.Rows.All
import Wide.All
import OpenK.AllK
import Wide.FinOn
import HandS.ForMost
import HandS.Wide
import HandS.WideBits
import HandS.IsInst
import HandS.Style
import HandS.Deep
import HandS.RaiseMore
import HandS.Conv
import HandS.Flow
import HandS.SortRule
import HandS.Exc
import HandS.ExcOwn
import HandS.ExcValue
import HandS.ExcIs
import HandS.WordsExc
import HandS.NoneIn
import KE.DataMinMax
import KE.SortData
import HandS.FStr
import PyProof.ReprRoads
import PyProof.Rows.NestShow
import PySem.Challenge.RW_logtrees_k26_errors_of_work
set_option Elab.async false
set_option linter.all false
set_option maxRecDepth 100000
set_option maxHeartbeats 4000000
namespace LT
/-- the greatest power of two less than m (m from 2) -/
def gp (m : Nat) : Nat := 2 ^ Nat.log2 (m - 1)
theorem gp_pos (m : Nat) : 0 < gp m := Nat.pow_pos (by decide)
theorem gp_lt {m : Nat} (h : 2 ≤ m) : gp m < m := by
  have := Nat.log2_self_le (n := m - 1) (by omega)
  unfold gp; omega
theorem gp_ge {m : Nat} (h : 2 ≤ m) : m ≤ 2 * gp m := by
  have := Nat.lt_log2_self (n := m - 1)
  unfold gp; rw [Nat.pow_succ] at this; omega
theorem pow_eq_of {i j : Nat} {m : Nat} (h1 : 2 ^ i < m) (h2 : m ≤ 2 * 2 ^ i) (h3 : 2 ^ j < m) (h4 : m ≤ 2 * 2 ^ j) : i = j := by
  have a : 2 ^ i < 2 ^ (j + 1) := by rw [Nat.pow_succ]; omega
  have b : 2 ^ j < 2 ^ (i + 1) := by rw [Nat.pow_succ]; omega
  have a' := (Nat.pow_lt_pow_iff_right (by decide : 1 < 2)).mp a
  have b' := (Nat.pow_lt_pow_iff_right (by decide : 1 < 2)).mp b
  omega
theorem gp_eq {i m : Nat} (h1 : 2 ^ i < m) (h2 : m ≤ 2 * 2 ^ i) : gp m = 2 ^ i := by
  have h : 2 ≤ m := by have := Nat.pow_pos (a := 2) (n := i) (by decide); omega
  have := pow_eq_of (gp_lt h) (gp_ge h) h1 h2
  unfold gp; rw [this]
theorem gp_pow (i : Nat) : gp (2 ^ (i + 1)) = 2 ^ i := gp_eq (by rw [Nat.pow_succ]; have := Nat.pow_pos (a := 2) (n := i) (by decide); omega) (by rw [Nat.pow_succ]; omega)

/-- siblings from the root's half down to the leaf's: nodes as (begin, length-end) pairs -/
def sib (b m e : Nat) : List (Nat × Nat) :=
  if h : m ≤ 1 then [] else
    if e < b + gp m then (b + gp m, b + m) :: sib b (gp m) e
    else (b, b + gp m) :: sib (b + gp m) (m - gp m) e
termination_by m
decreasing_by
  · exact gp_lt (by omega)
  · have := gp_pos m; omega
theorem sib_one {b m e : Nat} (h : m ≤ 1) : sib b m e = [] := by rw [sib]; simp [h]
theorem sib_low {b m e : Nat} (h : 2 ≤ m) (k : e < b + gp m) : sib b m e = (b + gp m, b + m) :: sib b (gp m) e := by
  rw [sib]; rw [dif_neg (by omega), if_pos k]
theorem sib_high {b m e : Nat} (h : 2 ≤ m) (k : ¬ e < b + gp m) : sib b m e = (b, b + gp m) :: sib (b + gp m) (m - gp m) e := by
  rw [sib]; rw [dif_neg (by omega), if_neg k]

/-! ### joining up again -/
def join (x y : Nat × Nat) : Nat × Nat := (min x.1 y.1, max x.2 y.2)
/-- the halves of a node -/
def halv (x : Nat × Nat) : (Nat × Nat) × (Nat × Nat) := ((x.1, x.1 + gp (x.2 - x.1)), (x.1 + gp (x.2 - x.1), x.2))
def ok1 (x y : Nat × Nat) : Prop := (join x y).1 + 2 ≤ (join x y).2 ∧ (halv (join x y) = (x, y) ∨ halv (join x y) = (y, x))
def oks : Nat × Nat → List (Nat × Nat) → Prop
  | _, [] => True
  | x, y :: r => ok1 x y ∧ oks (join x y) r
def top : Nat × Nat → List (Nat × Nat) → Nat × Nat
  | x, [] => x
  | x, y :: r => top (join x y) r
theorem oks_append : ∀ (x : Nat × Nat) (l r : List (Nat × Nat)), oks x l → oks (top x l) r → oks x (l ++ r)
  | _, [], _, _, h => h
  | x, y :: l, r, h1, h2 => ⟨h1.1, oks_append (join x y) l r h1.2 h2⟩
theorem top_append : ∀ (x : Nat × Nat) (l r : List (Nat × Nat)), top x (l ++ r) = top (top x l) r
  | _, [], _ => rfl
  | x, y :: l, r => top_append (join x y) l r
theorem sib_up : ∀ (m b e : Nat), b ≤ e → e < b + m → oks (e, e + 1) (sib b m e).reverse ∧ top (e, e + 1) (sib b m e).reverse = (b, b + m) := by
  intro m
  induction m using Nat.strongRecOn with
  | ind m ih =>
    intro b e h1 h2
    by_cases hm : m ≤ 1
    · have : m = 1 := by omega
      subst this
      rw [sib_one (by omega)]
      have : e = b := by omega
      subst this
      exact ⟨True.intro, rfl⟩
    · have g1 := gp_lt (m := m) (by omega)
      have g2 := gp_pos m
      by_cases k : e < b + gp m
      · rw [sib_low (by omega) k, List.reverse_cons]
        obtain ⟨p, q⟩ := ih (gp m) g1 b e h1 k
        have j : join (b, b + gp m) (b + gp m, b + m) = (b, b + m) := by
          unfold join; simp only []; rw [Nat.min_eq_left (by omega), Nat.max_eq_right (by omega)]
        refine ⟨oks_append _ _ _ p ?_, ?_⟩
        · rw [q]
          refine ⟨⟨?_, .inl ?_⟩, True.intro⟩
          · rw [j]; simp only []; omega
          · rw [j]; unfold halv; simp only []; rw [Nat.add_sub_cancel_left]
        · rw [top_append, q]; exact j
      · rw [sib_high (by omega) k, List.reverse_cons]
        obtain ⟨p, q⟩ := ih (m - gp m) (by omega) (b + gp m) e (by omega) (by omega)
        have e2 : b + gp m + (m - gp m) = b + m := by omega
        rw [e2] at q
        have j : join (b + gp m, b + m) (b, b + gp m) = (b, b + m) := by
          unfold join; simp only []; rw [Nat.min_eq_right (by omega), Nat.max_eq_left (by omega)]
        refine ⟨oks_append _ _ _ p ?_, ?_⟩
        · rw [q]
          refine ⟨⟨?_, .inr ?_⟩, True.intro⟩
          · rw [j]; simp only []; omega
          · rw [j]; unfold halv; simp only []; rw [Nat.add_sub_cancel_left]
        · rw [top_append, q]; exact j
theorem sib_len_pow (i : Nat) : ∀ (b e : Nat), b ≤ e → e < b + 2 ^ i → (sib b (2 ^ i) e).length = i := by
  induction i with
  | zero => intro b e h1 h2; rw [sib_one (by simp)]; rfl
  | succ i ih =>
    intro b e h1 h2
    have h3 : 2 ≤ 2 ^ (i + 1) := by rw [Nat.pow_succ]; have := Nat.pow_pos (a := 2) (n := i) (by decide); omega
    have g := gp_pow i
    have e2 : 2 ^ (i + 1) - 2 ^ i = 2 ^ i := by rw [Nat.pow_succ]; omega
    by_cases k : e < b + gp (2 ^ (i + 1))
    · rw [sib_low h3 k, List.length_cons, g, ih b e h1 (by omega)]
    · rw [sib_high h3 k, List.length_cons, g, e2, ih (b + 2 ^ i) e (by omega) (by rw [Nat.pow_succ] at h2; omega)]
/-! ### the peaks by digits: (begin, height) -/
def pk : Nat → Nat → Nat → List (Nat × Nat)
  | 0, _, _ => []
  | i + 1, n, b => if n.testBit i then (b, i) :: pk i n (b + 2 ^ i) else pk i n b
theorem mod_succ (n i : Nat) : n % 2 ^ (i + 1) = (if n.testBit i then 2 ^ i else 0) + n % 2 ^ i := by
  rw [Nat.mod_pow_succ, Nat.testBit_eq_decide_div_mod_eq, Nat.add_comm]
  have h : n / 2 ^ i % 2 = 0 ∨ n / 2 ^ i % 2 = 1 := by omega
  rcases h with h | h <;> rw [h] <;> simp
theorem pk_nil : ∀ (i n b : Nat), n % 2 ^ i = 0 → pk i n b = []
  | 0, _, _, _ => rfl
  | i + 1, n, b, h => by
    rw [mod_succ] at h
    have p := Nat.pow_pos (a := 2) (n := i) (by decide)
    unfold pk
    cases t : n.testBit i with
    | true => rw [t] at h; simp at h
    | false => rw [t] at h; simp at h; simp; exact pk_nil i n b h
theorem pk_ne : ∀ (i n b : Nat), n % 2 ^ i ≠ 0 → pk i n b ≠ []
  | 0, _, _, h => by simp [Nat.mod_one] at h
  | i + 1, n, b, h => by
    rw [mod_succ] at h
    unfold pk
    cases t : n.testBit i with
    | true => simp
    | false => rw [t] at h; simp at h; simp; exact pk_ne i n b (by omega)
theorem pk_begin : ∀ (i n b : Nat) (x : Nat × Nat), x ∈ pk i n b → b ≤ x.1 ∧ x.2 < i
  | 0, _, _, _, h => by simp [pk] at h
  | i + 1, n, b, x, h => by
    unfold pk at h
    cases t : n.testBit i with
    | true =>
      rw [t] at h; simp at h
      rcases h with h | h
      · subst h; exact ⟨Nat.le_refl _, Nat.lt_succ_self _⟩
      · have := pk_begin i n _ x h; have p := Nat.pow_pos (a := 2) (n := i) (by decide); omega
    | false =>
      rw [t] at h; simp at h
      have := pk_begin i n _ x h; omega
/-- what the law says of the levels: s the place of the first row, of t rows in all -/
def lev (t : Nat) : Nat → List (Nat × Nat) → List (Nat × Nat × Nat)
  | _, [] => []
  | s, x :: r => (x.1, x.1 + 2 ^ x.2, x.2 + min (s + 1) (t - 1)) :: lev t (s + 1) r
def due (e : Nat) (l : List (Nat × Nat × Nat)) : List Nat := (l.filter fun x => decide (x.1 ≤ e) && decide (e < x.2.1)).map fun x => x.2.2
theorem due_none (t e : Nat) : ∀ (l : List (Nat × Nat)) (s : Nat), (∀ x ∈ l, e < x.1) → due e (lev t s l) = []
  | [], _, _ => rfl
  | x :: r, s, h => by
    have h1 := h x (List.mem_cons_self)
    have ih := due_none t e r (s + 1) fun y hy => h y (List.mem_cons_of_mem _ hy)
    show List.map _ (List.filter _ ((x.1, x.1 + 2 ^ x.2, x.2 + min (s + 1) (t - 1)) :: lev t (s + 1) r)) = []
    rw [List.filter_cons, if_neg (by simp; omega)]
    exact ih
theorem due_is (n e : Nat) : ∀ (i b s : Nat), b ≤ e → e < b + n % 2 ^ i → due e (lev (s + (pk i n b).length) s (pk i n b)) = [(sib b (n % 2 ^ i) e).length + min s (s + (pk i n b).length - 1)] := by
  intro i
  induction i with
  | zero => intro b s h1 h2; simp [Nat.mod_one] at h2; omega
  | succ i ih =>
    intro b s h1 h2
    have p := Nat.pow_pos (a := 2) (n := i) (by decide)
    have ml := Nat.mod_lt n p
    cases t : n.testBit i with
    | false =>
      have e1 : n % 2 ^ (i + 1) = n % 2 ^ i := by rw [mod_succ, t]; simp
      have e2 : pk (i + 1) n b = pk i n b := by show (if n.testBit i = true then _ else _) = _; rw [t]; simp
      rw [e1] at h2
      rw [e1, e2]; exact ih b s h1 h2
    | true =>
      have e1 : n % 2 ^ (i + 1) = 2 ^ i + n % 2 ^ i := by rw [mod_succ, t]; simp
      have e2 : pk (i + 1) n b = (b, i) :: pk i n (b + 2 ^ i) := by show (if n.testBit i = true then _ else _) = _; rw [t]; simp
      rw [e1] at h2
      rw [e1, e2, List.length_cons]
      by_cases r0 : n % 2 ^ i = 0
      · rw [pk_nil i n _ r0, r0]
        rw [r0] at h2
        rw [Nat.add_zero] at h2
        rw [Nat.add_zero (2 ^ i), sib_len_pow i b e h1 h2]
        show List.map _ (List.filter _ [(b, b + 2 ^ i, i + min (s + 1) (s + (0 + 1) - 1))]) = _
        rw [List.filter_cons, if_pos (by simp; omega)]
        simp
      · have hne : 1 ≤ (pk i n (b + 2 ^ i)).length := by
          have := pk_ne i n (b + 2 ^ i) r0
          cases hh : pk i n (b + 2 ^ i) with
          | nil => exact absurd hh this
          | cons _ _ => rw [List.length_cons]; omega
        have g : gp (2 ^ i + n % 2 ^ i) = 2 ^ i := gp_eq (by omega) (by omega)
        by_cases k : e < b + 2 ^ i
        · rw [sib_low (by omega) (by rw [g]; exact k), g, List.length_cons, sib_len_pow i b e h1 k]
          have d := due_none (s + ((pk i n (b + 2 ^ i)).length + 1)) e (pk i n (b + 2 ^ i)) (s + 1) fun x hx => by have := pk_begin _ _ _ x hx; omega
          show List.map _ (List.filter _ ((b, b + 2 ^ i, i + min (s + 1) (s + ((pk i n (b + 2 ^ i)).length + 1) - 1)) :: lev (s + ((pk i n (b + 2 ^ i)).length + 1)) (s + 1) (pk i n (b + 2 ^ i)))) = _
          rw [List.filter_cons, if_pos (by simp; omega), List.map_cons]
          have d' : List.map (fun x => x.2.2) (List.filter (fun x => decide (x.1 ≤ e) && decide (e < x.2.1)) (lev (s + ((pk i n (b + 2 ^ i)).length + 1)) (s + 1) (pk i n (b + 2 ^ i)))) = [] := d
          rw [d']
          simp
          omega
        · rw [sib_high (by omega) (by rw [g]; exact k), g, List.length_cons, Nat.add_sub_cancel_left]
          have q := ih (b + 2 ^ i) (s + 1) (by omega) (by omega)
          have e3 : s + 1 + (pk i n (b + 2 ^ i)).length = s + ((pk i n (b + 2 ^ i)).length + 1) := by omega
          rw [e3] at q
          show List.map _ (List.filter _ ((b, b + 2 ^ i, i + min (s + 1) (s + ((pk i n (b + 2 ^ i)).length + 1) - 1)) :: lev (s + ((pk i n (b + 2 ^ i)).length + 1)) (s + 1) (pk i n (b + 2 ^ i)))) = _
          rw [List.filter_cons, if_neg (by simp; omega)]
          refine Eq.trans q ?_
          congr 1
          omega
/-! ### which pairs are nodes -/
/-- the bits of m - 1 -/
def lb (m : Nat) : Nat := if m ≤ 1 then 0 else Nat.log2 (m - 1) + 1
theorem lb_le {x i : Nat} (h : x ≤ 2 ^ i) : lb x ≤ i := by
  unfold lb
  by_cases k : x ≤ 1
  · rw [if_pos k]; omega
  · rw [if_neg k]
    have h1 := Nat.log2_self_le (n := x - 1) (by omega)
    have h2 : 2 ^ Nat.log2 (x - 1) < 2 ^ i := by omega
    exact (Nat.pow_lt_pow_iff_right (by decide : 1 < 2)).mp h2
theorem lb_ge (x : Nat) : x ≤ 2 ^ lb x := by
  unfold lb
  by_cases k : x ≤ 1
  · rw [if_pos k]; omega
  · rw [if_neg k]
    have := Nat.lt_log2_self (n := x - 1)
    omega
theorem lb_pow (i : Nat) : lb (2 ^ i) = i := by
  have h1 := lb_le (Nat.le_refl (2 ^ i))
  have h2 := (Nat.pow_le_pow_iff_right (by decide : 1 < 2)).mp (lb_ge (2 ^ i))
  omega
theorem lb_gp {m : Nat} (h : 2 ≤ m) : 2 ^ lb m = 2 * gp m := by
  unfold lb gp; rw [if_neg (by omega), Nat.pow_succ]; omega
def tree (n b m : Nat) : Prop := 2 ^ lb m ∣ b ∧ (m = 2 ^ lb m ∨ b + m = n)
theorem tree_root (n : Nat) : tree n 0 n := ⟨Nat.dvd_zero _, .inr (Nat.zero_add _)⟩
theorem tree_low {n b m : Nat} (h : 2 ≤ m) (t : tree n b m) : tree n b (gp m) := by
  obtain ⟨d, _⟩ := t
  rw [lb_gp h] at d
  have e : 2 ^ lb (gp m) = gp m := by unfold gp; rw [lb_pow]
  exact ⟨by rw [e]; exact Nat.dvd_trans (Nat.dvd_mul_left _ _) d, .inl e.symm⟩
theorem tree_high {n b m : Nat} (h : 2 ≤ m) (t : tree n b m) : tree n (b + gp m) (m - gp m) := by
  obtain ⟨d, k⟩ := t
  rw [lb_gp h] at d k
  have g1 := gp_lt h
  have g2 := gp_ge h
  have dg : 2 ^ lb (m - gp m) ∣ gp m := by
    have : lb (m - gp m) ≤ Nat.log2 (m - 1) := lb_le (by unfold gp at g1 g2 ⊢; omega)
    exact Nat.pow_dvd_pow 2 this
  refine ⟨Nat.dvd_add (Nat.dvd_trans dg (Nat.dvd_trans (Nat.dvd_mul_left _ _) d)) dg, ?_⟩
  rcases k with k | k
  · left
    have e : m - gp m = gp m := by omega
    rw [e]
    unfold gp; rw [lb_pow]
  · right; omega
theorem sib_len_le : ∀ (m b e : Nat), b ≤ e → e < b + m → (sib b m e).length ≤ lb m := by
  intro m
  induction m using Nat.strongRecOn with
  | ind m ih =>
    intro b e h1 h2
    by_cases hm : m ≤ 1
    · rw [sib_one hm]; exact Nat.zero_le _
    · have g1 := gp_lt (m := m) (by omega)
      have g2 := gp_ge (m := m) (by omega)
      have g3 := gp_pos m
      have e1 : lb m = Nat.log2 (m - 1) + 1 := by unfold lb; rw [if_neg hm]
      by_cases k : e < b + gp m
      · rw [sib_low (by omega) k, List.length_cons]
        have := ih (gp m) g1 b e h1 k
        have e2 : lb (gp m) = Nat.log2 (m - 1) := by unfold gp; rw [lb_pow]
        omega
      · rw [sib_high (by omega) k, List.length_cons]
        have := ih (m - gp m) (by omega) (b + gp m) e (by omega) (by omega)
        have e2 : lb (m - gp m) ≤ Nat.log2 (m - 1) := lb_le (by unfold gp at g1 g2 ⊢; omega)
        omega
end LT
namespace LT
open PySem PySem.Spec PyProof.Rows L2
def topS (i : Nat) : Stmt := PySem.Challenge.pw_logtrees_k26_errors_of_work.main.body.getD i (.Pass ⟨0, 0, 0, 0⟩)
abbrev sIsWhole : Stmt := topS 19
theorem scIsWhole : FnScope ["value"] ["value"] (defScope sIsWhole) := ⟨rfl, rfl, rfl, by decide +kernel, rfl, by decide +kernel, by decide +kernel⟩
abbrev sIsBetween : Stmt := topS 20
theorem scIsBetween : FnScope ["value", "low", "high"] ["value", "low", "high"] (defScope sIsBetween) := ⟨rfl, rfl, rfl, by decide +kernel, rfl, by decide +kernel, by decide +kernel⟩
abbrev sCheckSize : Stmt := topS 21
theorem scCheckSize : FnScope ["size"] ["size"] (defScope sCheckSize) := ⟨rfl, rfl, rfl, by decide +kernel, rfl, by decide +kernel, by decide +kernel⟩
abbrev sCheckNumberFrom : Stmt := topS 22
theorem scCheckNumberFrom : FnScope ["number", "least"] ["number", "least"] (defScope sCheckNumberFrom) := ⟨rfl, rfl, rfl, by decide +kernel, rfl, by decide +kernel, by decide +kernel⟩
abbrev sCheckNumberBetween : Stmt := topS 23
theorem scCheckNumberBetween : FnScope ["number", "least", "most"] ["number", "least", "most"] (defScope sCheckNumberBetween) := ⟨rfl, rfl, rfl, by decide +kernel, rfl, by decide +kernel, by decide +kernel⟩
abbrev sPowerWithin : Stmt := topS 25
theorem scPowerWithin : FnScope ["number"] ["number"] (defScope sPowerWithin) := ⟨rfl, rfl, rfl, by decide +kernel, rfl, by decide +kernel, by decide +kernel⟩
abbrev sPeaks : Stmt := topS 26
theorem scPeaks : FnScope ["size", "found", "begin", "end"] ["size"] (defScope sPeaks) := ⟨rfl, rfl, rfl, by decide +kernel, rfl, by decide +kernel, by decide +kernel⟩
abbrev sEdges : Stmt := topS 27
theorem scEdges : FnScope ["size", "begin", "_"] ["size"] (defScope sEdges) := ⟨rfl, rfl, rfl, by decide +kernel, rfl, by decide +kernel, by decide +kernel⟩
abbrev sMadeSums : Stmt := topS 29
theorem scMadeSums : FnScope ["size"] ["size"] (defScope sMadeSums) := ⟨rfl, rfl, rfl, by decide +kernel, rfl, by decide +kernel, by decide +kernel⟩
abbrev sAppendSums : Stmt := topS 30
theorem scAppendSums : FnScope ["size", "number"] ["size", "number"] (defScope sAppendSums) := ⟨rfl, rfl, rfl, by decide +kernel, rfl, by decide +kernel, by decide +kernel⟩
abbrev sRootSums : Stmt := topS 31
theorem scRootSums : FnScope ["size"] ["size"] (defScope sRootSums) := ⟨rfl, rfl, rfl, by decide +kernel, rfl, by decide +kernel, by decide +kernel⟩
abbrev sQuotientsSum : Stmt := topS 32
theorem scQuotientsSum : FnScope ["first", "step", "number", "divisor", "total"] ["first", "step", "number", "divisor"] (defScope sQuotientsSum) := ⟨rfl, rfl, rfl, by decide +kernel, rfl, by decide +kernel, by decide +kernel⟩
abbrev sRootsAlong : Stmt := topS 33
theorem scRootsAlong : FnScope ["first", "step", "number", "total", "divisor"] ["first", "step", "number"] (defScope sRootsAlong) := ⟨rfl, rfl, rfl, by decide +kernel, rfl, by decide +kernel, by decide +kernel⟩
abbrev sCheckStretch : Stmt := topS 34
theorem scCheckStretch : FnScope ["low", "high"] ["low", "high"] (defScope sCheckStretch) := ⟨rfl, rfl, rfl, by decide +kernel, rfl, by decide +kernel, by decide +kernel⟩
abbrev sRootsTotal : Stmt := topS 35
theorem scRootsTotal : FnScope ["low", "high"] ["low", "high"] (defScope sRootsTotal) := ⟨rfl, rfl, rfl, by decide +kernel, rfl, by decide +kernel, by decide +kernel⟩
abbrev sRootsBySteps : Stmt := topS 36
theorem scRootsBySteps : FnScope ["size", "step", "number"] ["size", "step", "number"] (defScope sRootsBySteps) := ⟨rfl, rfl, rfl, by decide +kernel, rfl, by decide +kernel, by decide +kernel⟩
abbrev sCheapest : Stmt := topS 37
theorem scCheapest : FnScope ["low", "high", "found", "room", "size"] ["low", "high"] (defScope sCheapest) := ⟨rfl, rfl, rfl, by decide +kernel, rfl, by decide +kernel, by decide +kernel⟩
abbrev sCostliest : Stmt := topS 38
theorem scCostliest : FnScope ["low", "high", "size"] ["low", "high"] (defScope sCostliest) := ⟨rfl, rfl, rfl, by decide +kernel, rfl, by decide +kernel, by decide +kernel⟩
abbrev sLawWound : Stmt := topS 40
theorem scLawWound : FnScope ["script", "k", "cell"] ["script", "k"] (defScope sLawWound) := ⟨rfl, rfl, rfl, by decide +kernel, rfl, by decide +kernel, by decide +kernel⟩
abbrev sLawSpin : Stmt := topS 41
theorem scLawSpin : FnScope ["reel", "many", "drawn", "mixed"] ["reel", "many"] (defScope sLawSpin) := ⟨rfl, rfl, rfl, by decide +kernel, rfl, by decide +kernel, by decide +kernel⟩
abbrev sLawDrawnSize : Stmt := topS 42
theorem scLawDrawnSize : FnScope ["reel", "power", "other", "some"] ["reel"] (defScope sLawDrawnSize) := ⟨rfl, rfl, rfl, by decide +kernel, rfl, by decide +kernel, by decide +kernel⟩
abbrev sLawToldKind : Stmt := topS 43
theorem scLawToldKind : FnScope ["e", "found", "name", "told"] ["e"] (defScope sLawToldKind) := ⟨rfl, rfl, rfl, by decide +kernel, rfl, by decide +kernel, by decide +kernel⟩
abbrev sLawKinds : Stmt := topS 44
theorem scLawKinds : FnScope ["e", "found"] ["e"] (defScope sLawKinds) := ⟨rfl, rfl, rfl, by decide +kernel, rfl, by decide +kernel, by decide +kernel⟩
abbrev sLawCalled : Stmt := topS 45
theorem scLawCalled : FnScope ["door", "one", "two", "three"] ["door", "one", "two", "three"] (defScope sLawCalled) := ⟨rfl, rfl, rfl, by decide +kernel, rfl, by decide +kernel, by decide +kernel⟩
abbrev sLawTold : Stmt := topS 46
theorem scLawTold : FnScope ["door", "one", "two", "three", "kept", "caught", "e"] ["door", "one", "two", "three"] (defScope sLawTold) := ⟨rfl, rfl, rfl, by decide +kernel, rfl, by decide +kernel, by decide +kernel⟩
abbrev sLawRight : Stmt := topS 47
theorem scLawRight : FnScope ["reel", "size", "odd", "far", "bad", "two", "step", "told", "door"] ["reel", "size"] (defScope sLawRight) := ⟨rfl, rfl, rfl, by decide +kernel, rfl, by decide +kernel, by decide +kernel⟩
abbrev sLaw : Stmt := topS 48
theorem scLaw : FnScope ["script", "k", "reel", "size"] ["script"] (defScope sLaw) := ⟨rfl, rfl, rfl, by decide +kernel, rfl, by decide +kernel, by decide +kernel⟩
/-- a def as it stands behind the top -/
structure At (K : PySem.W.Frag) (mg : Str → Option Value) (x : Str) (f : Addr) (fd : FuncData) (ps : List Str) : Prop where
  m : mg x = some (.ref f)
  kp : PySem.W.keepIn K (.ref f) = true
  b : Binds K fd ps []
theorem units1 {k : Nat} {A : Around} (r : Room k A) : A.units + 65 < cLine := by have := r.un; omega
/-- all but b as it was -/
def But (b : Addr) (H H' : Hp) : Prop := ∀ a o, a ≠ b → H a = some o → H' a = some o
theorem But.refl (b : Addr) (H : Hp) : But b H H := fun _ _ _ h => h
theorem But.trans {b : Addr} {H H1 H2 : Hp} (x : But b H H1) (y : But b H1 H2) : But b H H2 := fun a o n h => y a o n (x a o n h)
theorem But.of {b : Addr} {H H1 : Hp} (x : Same H H1) : But b H H1 := fun a o _ h => x a o h
theorem same_upd {H : Hp} {p : Addr} {o : HO} (h : H p = none) : Same H (upd H p o) := fun b x e => by
  rw [upd_ne (ne_of_none e h)]
  exact e
def BagAt (H : Hp) (b : Addr) : Prop := ∃ x y z : Int, H b = some (.lst [.int x, .int y, .int z])
theorem BagAt.same {H H' : Hp} {b : Addr} (h : BagAt H b) (s : Same H H') : BagAt H' b := by
  obtain ⟨x, y, z, e⟩ := h
  exact ⟨x, y, z, s _ _ e⟩
/-- a pair of ints -/
def Nd (H : Hp) (v : V) (x : Nat × Nat) : Prop := ∃ p, v = .ref p ∧ H p = some (.tup [.int x.1, .int x.2])
theorem Nd.same {H H' : Hp} {v : V} {x : Nat × Nat} (h : Nd H v x) (s : Same H H') : Nd H' v x := by
  obtain ⟨p, e, q⟩ := h
  exact ⟨p, e, s _ _ q⟩
theorem Nd.dp {K : PySem.W.Frag} {H : Hp} {v : V} {x : Nat × Nat} (h : Nd H v x) : Dp K H v (.tuple [.int x.1, .int x.2]) := by
  obtain ⟨p, rfl, q⟩ := h
  exact .tup (SqT.of q) (.cons (.int _) (.cons (.int _) .nil))
theorem nd_shaped (a b : Int) : SeqAt.shaped (.tuple [.int a, .int b]) = true := by
  show (PyData.canLay0 _ && decide (PyData.depth _ ≤ 64)) = true
  simp [PyData.canLay0, PyData.canLayAll0, PyData.depth, PyData.depthAll]
theorem nd_eqv (a b c d : Int) : PyData.eqv (.tuple [.int a, .int b]) (.tuple [.int c, .int d]) = (decide (a = c) && decide (b = d)) := by
  have e : PyData.eqv (.tuple [.int a, .int b]) (.tuple [.int c, .int d]) = ((a == c) && ((b == d) && true)) := by simp only [PyData.eqv, PyData.eqvAll]
  rw [e, Bool.and_true]
  by_cases h1 : a = c <;> by_cases h2 : b = d <;> simp [h1, h2]
/-- lists of values and what they stand for -/
inductive All2 {α : Type} (R : V → α → Prop) : List V → List α → Prop
  | nil : All2 R [] []
  | cons {v : V} {x : α} {vs : List V} {xs : List α} : R v x → All2 R vs xs → All2 R (v :: vs) (x :: xs)
section
variable {α : Type} {R R' : V → α → Prop}
theorem All2.mono (f : ∀ v x, R v x → R' v x) : ∀ {vs : List V} {xs : List α}, All2 R vs xs → All2 R' vs xs
  | _, _, .nil => .nil
  | _, _, .cons h t => .cons (f _ _ h) (All2.mono f t)
theorem All2.len : ∀ {vs : List V} {xs : List α}, All2 R vs xs → vs.length = xs.length
  | _, _, .nil => rfl
  | _, _, .cons _ t => by rw [List.length_cons, List.length_cons, All2.len t]
theorem All2.app : ∀ {vs : List V} {xs : List α} {us : List V} {ys : List α}, All2 R vs xs → All2 R us ys → All2 R (vs ++ us) (xs ++ ys)
  | _, _, _, _, .nil, h => h
  | _, _, _, _, .cons h t, k => .cons h (All2.app t k)
theorem All2.rev : ∀ {vs : List V} {xs : List α}, All2 R vs xs → All2 R vs.reverse xs.reverse
  | _, _, .nil => .nil
  | _, _, .cons h t => by
    rw [List.reverse_cons, List.reverse_cons]
    exact All2.app (All2.rev t) (.cons h .nil)
theorem All2.nth : ∀ {vs : List V} {xs : List α} {i : Nat} {v : V}, All2 R vs xs → vs[i]? = some v → ∃ x, xs[i]? = some x ∧ R v x
  | _, _, _, _, .nil, h => by simp at h
  | _, _, 0, _, .cons h t, e => by
    have := Option.some.inj e
    subst this
    exact ⟨_, rfl, h⟩
  | _, _, i + 1, _, .cons h t, e => by
    rw [List.getElem?_cons_succ] at e ⊢
    exact All2.nth t e
theorem All2.nth2 : ∀ {vs : List V} {xs : List α} {i : Nat} {x : α}, All2 R vs xs → xs[i]? = some x → ∃ v, vs[i]? = some v ∧ R v x
  | _, _, _, _, .nil, h => by simp at h
  | _, _, 0, _, .cons h t, e => by
    have := Option.some.inj e
    subst this
    exact ⟨_, rfl, h⟩
  | _, _, i + 1, _, .cons h t, e => by
    rw [List.getElem?_cons_succ] at e ⊢
    exact All2.nth2 t e
end

/-! ### rules within a comprehension: what they say of the written part is said of the def's -/
section
open PySem L2
variable {X : Cx} {s : Shared} {H : Hp} {sc : Scope} {ce : Env} {fp : List Addr}
theorem pg_tupB {es : List Expr} {k : Nat} {pos : Pos} {t : TGs} {n : Nat} (hc : X.calm = true) (h : PGs (X.blk s H sc ce fp) es t)
    (hn : (assignEach es (X.blk s H sc ce fp).env).length = n := by rfl) (hst : (assignEach es (X.blk s H sc ce fp).env).findIdx? (·.1) = none := by rfl) : PG (X.blk s H sc ce fp) (.Tuple es k pos) (gTup X.K n t) := pg_tup hc h hn hst
theorem ix_listB : IxR (X.blk s H sc ce fp) (rIxL X.K) := ix_list
theorem ix_tupB : IxR (X.blk s H sc ce fp) (rIxT X.K) := ix_tup
theorem call_len_seqB : CallR (X.blk s H sc ce fp) (.builtin "len") (fun xs H Q => ∃ p ys, xs = [.ref p] ∧ (SqL X.K H p ys ∨ SqT X.K H p ys) ∧ Q (.int ys.length) H) := call_len_seq
theorem op_eqDB (hu : X.A.units + 64 < cLine) : OpR (X.blk s H sc ce fp) (compareOp .Eq) (rEqD X.K) := op_eqD (X := X.blk s H sc ce fp) hu
theorem op_neDB (hu : X.A.units + 64 < cLine) : OpR (X.blk s H sc ce fp) (compareOp .NotEq) (rNeD X.K) := op_neD (X := X.blk s H sc ce fp) hu
theorem op_inDB (hu : X.A.units + 65 < cLine) : OpR (X.blk s H sc ce fp) (compareOp .In) (rInD X.K) := op_inD (X := X.blk s H sc ce fp) hu
theorem op_notInDB (hu : X.A.units + 65 < cLine) : OpR (X.blk s H sc ce fp) (compareOp .NotIn) (rNotInD X.K) := op_notInD (X := X.blk s H sc ce fp) hu
end
theorem Nd.upd {H : Hp} {v : V} {x : Nat × Nat} {s : Addr} {xs : List V} {o : HO} (h : Nd H v x) (hs : H s = some (.lst xs)) : Nd (upd H s o) v x := by
  obtain ⟨p, e, q⟩ := h
  exact ⟨p, e, by rw [upd_ne (ne_of q hs (by intro z; cases z))]; exact q⟩
def full (x : Nat × Nat) : Nat × Nat := (x.1, x.1 + 2 ^ x.2)
theorem pk_len : ∀ (i n b : Nat), (pk i n b).length ≤ i
  | 0, _, _ => Nat.le_refl _
  | i + 1, n, b => by
    show (if n.testBit i = true then (b, i) :: pk i n (b + 2 ^ i) else pk i n b).length ≤ i + 1
    by_cases t : n.testBit i = true
    · rw [if_pos t, List.length_cons]
      exact Nat.succ_le_succ (pk_len i n _)
    · rw [if_neg t]
      exact Nat.le_succ_of_le (pk_len i n b)
theorem take_more {α : Type} : ∀ {l : List α} {i : Nat} {x : α}, l[i]? = some x → l.take (i + 1) = l.take i ++ [x]
  | [], i, x, h => by simp at h
  | a :: l, 0, x, h => by
    have e : a = x := Option.some.inj h
    subst e
    rfl
  | a :: l, i + 1, x, h => by
    have ih := take_more (l := l) (i := i) (x := x) h
    show a :: l.take (i + 1) = a :: l.take i ++ [x]
    rw [ih]
    rfl
theorem szle {n : Nat} (h : n ≤ 100000) : n ≤ sizeLine := Nat.le_trans h (by decide)
theorem szlt {n : Nat} (h : n < 100000) : n < sizeLine := Nat.lt_of_lt_of_le h (by decide)
end LT

namespace LT
open PySem PySem.Spec PyProof.Rows L2
/-! ### a caught exception that is kept behind its suite -/
/-- an exception of the class cls at a, its own dict at d, if any -/
def ExK (cls : Value) (d : Option Addr) (a : Addr) : HO := .ext fun h => ∃ (ob : Obj) (fs : Array Value), h.get? a = some ob ∧ Zc cls d ob ∧ ob.data = .fields fs
theorem exK_ok {P : Program} {w : World} {H : Hp} {h : Heap} {a : Addr} {cls : Value} {d : Option Addr} {ob : Obj} {fs : Array Value} (e : h.get? a = some ob) (z : Zc cls d ob) (df : ob.data = .fields fs) : ObjOk P w H h a (ExK cls d a) :=
  ⟨⟨ob, fs, e, z, df⟩, ⟨ob, e⟩, fun _ _ ⟨o, v, q, r⟩ k => ⟨o, v, k o q, r⟩⟩
section
variable {X : Cx} {pins : List (Addr × Obj)} {σ : L2.St} {H : Hp} {s : Shared}
/-- it is told of from now on -/
theorem Inv.adopt {a : Addr} {cls : Value} {d : Option Addr} {ob : Obj} {fs : Array Value} (I : Inv X pins σ H s) (e : s.heap.get? a = some ob) (z : Zc cls d ob) (df : ob.data = .fields fs) (na : H a = none) (n0 : X.s_0.heap.get? a = none)
    (nL : a ≠ X.env.locals) (np : ∀ p ∈ X.pn ++ pins, p.1 ≠ a) : Inv X pins σ (upd H a (ExK cls d a)) s := by
  have ne0 : ∀ b o, X.s_0.heap.get? b = some o → b ≠ a := fun b o q y => by
    rw [y, n0] at q
    cases q
  refine ⟨I.ok, I.os, I.bare, ⟨I.base.keep, I.base.slot, ?_, I.base.there, ?_, ?_, ?_⟩, I.loc, I.cell, ?_, ?_, ?_, ?_, I.len⟩
  · intro b o q n hx
    rw [upd_ne (ne0 b o q)]
    exact I.base.free b o q n hx
  · intro b xs q
    have y := I.base.tups b xs q
    rw [upd_ne (ne_of_none y na)]
    exact y
  · intro b o u q
    have y := I.base.frzs b o u q
    rw [upd_ne (ne_of_none y na)]
    exact y
  · intro b ps q
    obtain ⟨m, y⟩ := I.base.tbls b ps q
    exact ⟨m, by rw [upd_ne (ne_of_none y na)]; exact y⟩
  · rw [upd_ne (fun y => nL y.symm)]
    exact I.free
  · intro x c q
    obtain ⟨v, o, ho, hd⟩ := I.cell x c q
    rw [upd_ne (fun y => by rw [y, e] at ho; cases ho; rw [df] at hd; cases hd)]
    exact I.freeC x c q
  · intro p hp
    obtain ⟨q1, q2, q3⟩ := I.pin p hp
    exact ⟨q1, by rw [upd_ne (np p hp)]; exact q2, q3⟩
  · exact HOk.laidN I.hok (fun _ _ q => q) na (exK_ok e z df)
end
/-- what the ends of a suite say, once the name of its clause has gone and the exception is told of -/
def endsK (i : Nat) (a : Addr) (cls : Value) (d : Option Addr) (D : Ends) : Ends :=
  { nx := fun σ' H' => H' a = none → D.nx (σ'.set i none) (upd H' a (ExK cls d a)), rt := fun v H' => H' a = none → D.rt v (upd H' a (ExK cls d a)),
    bk := fun σ' H' => H' a = none → D.bk (σ'.set i none) (upd H' a (ExK cls d a)), ct := fun σ' H' => H' a = none → D.ct (σ'.set i none) (upd H' a (ExK cls d a)) }
def wKeep (K : PySem.W.Frag) (c : Value) (i : Nat) (ts : Addr → Value → Option Addr → TS) (Wout : WX) (D : Ends) : WX := fun cls d σ H =>
  ∃ b, PySem.W.exmOne K cls c = some b ∧ (b = true → ∀ a, H a = none → ts a cls d (endsK i a cls d D) (σ.set i (some (.ref a))) H) ∧ (b = false → Wout cls d σ H)
section
variable {X : Cx} {x n : Str} {c : Value} {i : Nat} {body suite : List Stmt} {st0 : Stmt} {p1 p2 p3 : Pos} {tb : WX → TS} {ts : Addr → Value → Option Addr → TS} {Wout : WX}
theorem ps_try_keep (hst : X.stack = X.env :: X.outer) (hex : X.ex = []) (hfr : X.env.frame = some X.env.locals) (nod : X.N.Nodup) (slot : X.N[i]? = some n) (own : X.env.kindOf n = some .local) (hc : Names X x c) (tk : Takes X Wout)
    (hb : ∀ (W : WX) (pn : List (Addr × Obj)) (xe : Value → Shared → Prop), Takes (X.tr pn xe) W → PassesOwn (model X.prog X.w) X.A X.env xe → PSs (X.tr pn xe) body (tb W))
    (hsu : ∀ (a : Addr) (ob : Obj) (cls : Value) (d : Option Addr) (pn : List (Addr × Obj)), Zc cls d ob → (∃ fs, ob.data = .fields fs) → PSs (X.suite a ((a, ob) :: pn)) (st0 :: suite) (ts a cls d)) :
    PS X (.Try body [.ExceptHandler (some (.Name x p1)) (some n) (st0 :: suite) p2] [] [] p3) (fun D σ H => tb (wKeep X.K c i ts Wout D) D σ H) := by
  refine ⟨?_⟩
  intro pins s σ H D I h
  have okX := I.ok
  have frms : X.A.frames = some (X.env :: X.outer) := okX.frames.trans (congrArg some hst)
  have locn : Loc X.env.scope n := .inl own
  refine wpAny_Try_except ?_
  let land : Value → Shared → Prop := fun e u1 => wpAny (model X.prog X.w) X.A (noteFrame e X.env) (fun _ u2 => wpAny (model X.prog X.w) X.A (setFlight e none)
    (fun _ u3 => wpAny (model X.prog X.w) X.A (handleBy e X.env [.ExceptHandler (some (.Name x p1)) (some n) (st0 :: suite) p2]) (SP X pins D) X.xe u3) X.xe u2) X.xe u1
  have catch_ : Takes (X.tr (X.pn ++ pins) land) (wKeep X.K c i ts Wout D) := by
    rintro u s' ⟨a, B, sI, pins', τ, G, cls, d, rfl, J', ground, up, sky, na, os, ag, b, hb1, yes, no⟩
    have J : Inv X pins τ G sI := J'.ofTry okX
    have sky1 : Sky B (X.env :: X.outer) a (Zc cls d) X.env.locals s'.heap := hst ▸ sky
    show wpAny (model X.prog X.w) X.A (noteFrame (.ref a) X.env) _ _ _
    refine Sky.land Zc.steady frms hfr sky1 fun ha fa upa => ?_
    have Ja : Inv X pins τ G { s' with heap := ha } := J.landed ground fa.1 (up.trans upa) os ag
    obtain ⟨oa, va, geta, za, da⟩ := fa.there
    have offStack : a ∉ frs (X.env :: X.outer) := fun hm => by
      obtain ⟨_, o', e', hnf⟩ := Heap.FunFrames.mem fa.2.2.1 hm
      rw [geta] at e'
      cases e'
      exact hnf _ da
    have nL : a ≠ X.env.locals := fun y => offStack (List.mem_filterMap.mpr ⟨X.env, List.mem_cons_self, by rw [hfr, y]⟩)
    have nF : a ∉ X.fs := fun hm => by
      obtain ⟨e, he, q⟩ := List.mem_filterMap.mp hm
      exact offStack (List.mem_filterMap.mpr ⟨e, List.mem_cons_of_mem _ he, q⟩)
    -- it was not there before
    have newI : sI.heap.get? a = none := by
      cases q : sI.heap.get? a with
      | none => rfl
      | some o =>
        have y := ground a o q (by rw [hst]; exact offStack)
        rw [fa.2.1] at y
        cases y
    have new0 : X.s_0.heap.get? a = none := by
      cases q : X.s_0.heap.get? a with
      | none => rfl
      | some o =>
        obtain ⟨o', y⟩ := J.base.there a o q (by rw [hex]; exact List.not_mem_nil)
        rw [newI] at y
        cases y
    have npin : ∀ p ∈ X.pn ++ pins, p.1 ≠ a := fun p hp y => by
      have q := (J.pin p hp).1
      rw [y, newI] at q
      cases q
    have Sa := Ja.suite geta da na nL nF
    refine wpAny_handleBy_cons (codeAny_handlers_test ?_) (fun q => by cases q)
    have tyA : PySem.W.Looks (model X.prog X.w) ha (typeOf (.ref a)) cls := fun A Q E s k q => wpAny_typeOf_ref (k _ _ geta) (by rw [za.1]; exact q)
    have asked := PySem.W.exm_one (M := model X.prog X.w) (Ja.kIn) tyA hb1
    have named : ∀ {Q : Value → Shared → Prop} {E : Value → Shared → Prop}, Q c { s' with heap := ha } → wpAny (model X.prog X.w) (X.A.mark (some (.ref a))) (eval (.Name x p1) X.env) Q E { s' with heap := ha } := by
      intro Q E q
      obtain ⟨hg, hdbg, hm | ⟨hm, hv, hnn⟩⟩ := hc
      · exact ld_glob (X := X.suite a ((a, oa) :: (X.pn ++ pins))) Sa hg hm q hdbg
      · exact ld_blt (X := X.suite a ((a, oa) :: (X.pn ++ pins))) Sa hg hm hv q hnn hdbg
    refine named (asked.here ?_)
    cases b with
    | true =>
      refine codeAny_handlers_suite_as ?_
      refine HandSPX.lands_againZ fa fun hz fz upz => ?_
      have Jz : Inv X pins τ G { s' with heap := hz } := J.landed ground fz.1 ((up.trans upa).trans upz) os ag
      obtain ⟨oz, vz, getz, zz, dz⟩ := fz.there
      have Sz := Jz.suite getz dz na nL nF
      refine store_ok (X := X.suite a ((a, oz) :: (X.pn ++ pins))) (v := .ref a) Sz nod slot locn rfl ?_ (.inr own)
      intro s5 S5
      refine wpAny_mono ((hsu a oz cls d (X.pn ++ pins) zz ⟨_, dz⟩).run [] s5 _ G _ S5 (yes rfl a na)) ?_ (fun _ _ y => False.elim y)
      intro fl s6 sp
      have fin : ∀ {σ6 : L2.St} {H6 : Hp} {Q : Shared → Prop}, Inv (X.suite a ((a, oz) :: (X.pn ++ pins))) [] σ6 H6 s6 → H6 a = none ∧ ((∀ s7, Inv X pins (σ6.set i none) (upd H6 a (ExK cls d a)) s7 → Q s7) →
          wpAny (model X.prog X.w) X.A (do bindName X.env n .none; unbindBehindTheSuite X.env n p2) (fun _ s7 => Q s7) X.xe s6) := by
        intro σ6 H6 Q S6
        refine ⟨(S6.pin (a, oz) (List.mem_append_left _ List.mem_cons_self)).2.1, fun hq => ?_⟩
        refine gone_ok (X := X.suite a ((a, oz) :: (X.pn ++ pins))) S6 nod slot own fun s7 S7 => hq s7 ?_
        have pa := S7.pin (a, oz) (List.mem_append_left _ List.mem_cons_self)
        exact Inv.adopt (S7.unsuite okX) pa.1 zz dz pa.2.1 new0 nL npin
      cases fl with
      | next =>
        obtain ⟨σ6, H6, S6, q6⟩ := sp
        exact (fin S6).2 fun s7 J7 => ⟨_, _, J7, q6 (fin (Q := fun _ => True) S6).1⟩
      | brk =>
        obtain ⟨σ6, H6, S6, q6⟩ := sp
        exact (fin S6).2 fun s7 J7 => ⟨_, _, J7, q6 (fin (Q := fun _ => True) S6).1⟩
      | cont =>
        obtain ⟨σ6, H6, S6, q6⟩ := sp
        exact (fin S6).2 fun s7 J7 => ⟨_, _, J7, q6 (fin (Q := fun _ => True) S6).1⟩
      | ret u =>
        obtain ⟨v6, σ6, H6, S6, r6, q6⟩ := sp
        exact (fin S6).2 fun s7 J7 => ⟨_, _, _, J7, r6, q6 (fin (Q := fun _ => True) S6).1⟩
    | false =>
      show wpAny _ X.A (handleBy (.ref a) X.env []) _ _ _
      refine wpAny_handleBy_nil ?_
      obtain ⟨_, _, _, ob, fv, T, oT, ts', he, hz, hd, h1, hr⟩ := id fa
      unfold PySem.passOn
      refine wpAny_bind (wpAny_field he hd h1 ?_)
      rw [if_neg (show ¬ ((Value.ref T == Value.none) = true) from by simp)]
      have on_ : wpAny (model X.prog X.w) X.A (setFlight (.ref a) X.env.frame) (fun _ u4 => wpAny (model X.prog X.w) X.A (throw (.ref a) : Sem Flow) (SP X pins D) X.xe u4) X.xe { s' with heap := ha } := by
        rw [hfr]
        refine HandSPX.setFlight_upZ fa fun h4 hh4 up4 => wpAny_throw (tk _ _ ?_)
        exact ⟨a, B, sI, pins, τ, G, cls, d, rfl, J, ground, (up.trans upa).trans up4, .inr (.inr (by rw [hst]; exact hh4)), na, os, ag, no rfl⟩
      first
        | exact wpAny_bind (wpAny_pure (wpAny_bind on_))
        | exact wpAny_bind on_
  refine wpAny_mono ((hb (wKeep X.K c i ts Wout D) (X.pn ++ pins) land catch_ PassesOwn.looking).run [] s σ H D (I.toTry _) h) ?_ (fun e s1 he => he)
  intro fl s1 sp
  cases fl with
  | next =>
    obtain ⟨σ', H', J', q⟩ := sp
    exact wpAny_execs_nil ⟨σ', H', J'.ofTry okX, q⟩
  | brk =>
    obtain ⟨σ', H', J', q⟩ := sp
    exact ⟨σ', H', J'.ofTry okX, q⟩
  | cont =>
    obtain ⟨σ', H', J', q⟩ := sp
    exact ⟨σ', H', J'.ofTry okX, q⟩
  | ret u =>
    obtain ⟨v, σ', H', J', r, q⟩ := sp
    exact ⟨v, σ', H', J'.ofTry okX, r, q⟩
end
section
variable {X : Cx}
/-- isinstance(e, c), e an exception that is kept, without a dict of its own -/
def rIsK (K : PySem.W.Frag) : List V → Hp → VK → Prop := fun xs H Q => ∃ (a D : Addr) (c : V) (cv : Value) (b : Bool), xs = [.ref a, c] ∧ H a = some (ExK (.ref D) none a) ∧ ExcC K D ∧ (∀ u, RelV c u → u = cv) ∧ PySem.W.kitOne K (.ref D) cv = some b ∧ Q (.bl b) H
theorem call_isK : CallR X (.builtin "isinstance") (rIsK X.K) := by
  intro pins s σ H xs us Q I r h
  obtain ⟨a, D, c, cv, b, rfl, ha, C, hcv, e, q⟩ := h
  obtain ⟨u1, us1, rfl, r1, r2⟩ : ∃ u us', us = u :: us' ∧ RelV (.ref a) u ∧ Vals [c] us' := by
    cases r with | cons h t => exact ⟨_, _, rfl, h, t⟩
  obtain ⟨u2, rfl, r3⟩ := vals1 r2
  cases r1
  have ec := hcv _ r3
  subst ec
  obtain ⟨⟨ob, fs, hget, hz, hd⟩, _, _⟩ := I.hok a _ ha
  have J : PySem.W.InstAt s.heap a ob D none := by
    obtain ⟨oc, od, oda, osl⟩ := ob
    obtain ⟨z1, z2⟩ := hz
    dsimp only at z1 z2 hd
    subst z1 z2 hd
    exact ⟨hget, rfl, rfl, trivial⟩
  refine PySem.W.kia_one (PySem.W.handS_kitx_exc C.hg C.hk C.hs C.hd C.ha C.hn C.ht C.hm) I.kIn J e (fun z => nomatch z) ?_
  intro tk
  exact ⟨.bl b, H, I.kept (t' := tk) fun _ _ z => z, rfl, q⟩
end
end LT

namespace LT
open PySem PySem.Spec PyProof.Rows L2
/-! ### repr of a new list of plain values, one of them an empty dict, perhaps -/
inductive Sm (H : Hp) : V → PyData → Prop
  | non : Sm H .non .none
  | bl (b) : Sm H (.bl b) (.bool b)
  | int (i) : Sm H (.int i) (.int i)
  | str (x) : Sm H (.str x) (.str x)
  | tup {p i} (e : H p = some (.tup [.int i])) : Sm H (.ref p) (.tuple [.int i])
  | lst {p i} (e : H p = some (.lst [.int i])) : Sm H (.ref p) (.list [.int i])
  | dict {p} (e : H p = some (.dK [])) : Sm H (.ref p) (.dict [])
theorem Sm.same {H H' : Hp} {v : V} {d : PyData} (h : Sm H v d) (s : Same H H') : Sm H' v d := by
  cases h with
  | non => exact .non
  | bl b => exact .bl b
  | int i => exact .int i
  | str x => exact .str x
  | tup e => exact .tup (s _ _ e)
  | lst e => exact .lst (s _ _ e)
  | dict e => exact .dict (s _ _ e)
def noL : PyData → Bool
  | .list _ => false
  | _ => true
section
variable {X : Cx} {pins : List (Addr × Obj)} {σ : L2.St} {H : Hp} {s : Shared}
theorem Sm.reads (I : Inv X pins σ H s) {v : V} {d : PyData} {u : Value} (h : Sm H v d) (r : RelV v u) : ∃ as, Reads s.heap u d as ∧ (noL d = true → sysModules ∉ as) := by
  cases h with
  | non =>
    cases r
    exact ⟨_, Reads.none, fun _ => List.not_mem_nil⟩
  | bl b =>
    cases r
    exact ⟨_, Reads.bool b, fun _ => List.not_mem_nil⟩
  | int i =>
    obtain ⟨t, rfl⟩ := r
    exact ⟨_, Reads.int i t, fun _ => List.not_mem_nil⟩
  | str x =>
    obtain ⟨t, rfl⟩ := r
    exact ⟨_, Reads.str x t, fun _ => List.not_mem_nil⟩
  | @tup p i e =>
    cases r
    obtain ⟨its, rv, ⟨o, ho, hc, n, hd⟩, _⟩ := I.tuple (SqT.of e)
    obtain ⟨u1, e1, r1⟩ := vals1 rv
    obtain ⟨t, rfl⟩ := r1
    refine ⟨_, Reads.tuple ho hc hd (xs := [.int i]) (as := [] ++ []) ?_, fun _ => List.not_mem_nil⟩
    rw [show its.toArray.toList = [.int i t] by rw [e1]]
    exact .cons (.int i t) .nil
  | @lst p i e =>
    cases r
    obtain ⟨its, rv, ⟨o, n, ho, hc, _, hd⟩, _⟩ := I.list (SqL.of e)
    obtain ⟨u1, e1, r1⟩ := vals1 rv
    obtain ⟨t, rfl⟩ := r1
    refine ⟨_, Reads.list ho hc hd (xs := [.int i]) (as := [] ++ []) ?_, fun z => nomatch z⟩
    rw [show its.toArray.toList = [.int i t] by rw [e1]]
    exact .cons (.int i t) .nil
  | @dict p e =>
    cases r
    obtain ⟨_, hs, vs, kv, o, es, ep, ho, hx, hd, _, hp, _⟩ := dk_of I.hok e
    cases kv
    have e0 : es.toList = [] := by
      cases h : es.toList with
      | nil => rfl
      | cons a l => rw [h] at hp; cases hp
    refine ⟨_, Reads.dict (kvs := []) (as := []) (bs := []) ho hx.1 hd ?_ ?_, fun _ z => ?_⟩
    · rw [e0]; exact .nil
    · rw [e0]; exact .nil
    · rcases List.mem_cons.mp z with z | z
      · rw [← z] at hs; exact absurd hs (by decide)
      · cases z
theorem Sm.readsAll (I : Inv X pins σ H s) : ∀ {vs : List V} {ds : List PyData} {us : List Value}, All2 (Sm H) vs ds → Vals vs us → ∃ as, ReadsAll s.heap us ds as ∧ (ds.all noL = true → sysModules ∉ as)
  | _, _, _, .nil, r => by
    cases r
    exact ⟨_, .nil, fun _ => List.not_mem_nil⟩
  | _, _, _, .cons h t, r => by
    cases r with
    | cons r1 r2 =>
      obtain ⟨as, a1, a2⟩ := Sm.reads I h r1
      obtain ⟨bs, b1, b2⟩ := Sm.readsAll I t r2
      refine ⟨_, .cons a1 b1, fun z => ?_⟩
      rw [List.all_cons, Bool.and_eq_true] at z
      exact fun m => (List.mem_append.mp m).elim (a2 z.1) (b2 z.2)
theorem Sm.deep {vs : List V} {ds : List PyData} (h : All2 (Sm H) vs ds) : PyData.depthAll ds ≤ 2 := by
  induction h with
  | nil => simp [PyData.depthAll]
  | cons h _ ih =>
    have : ∀ {v d}, Sm H v d → PyData.depth d ≤ 2 := fun h => by
      cases h <;> simp [PyData.depth, PyData.depthAll, PyData.depthKv]
    simp only [PyData.depthAll]
    have := this h
    omega
/-- [..], not where sys.modules stands -/
def tLstN (t : TA) : TE := fun σ H Q => t σ H fun xs H1 => xs.length ≤ sizeLine ∧ ∀ p, H1 p = none → (p == sysModules) = false → Q (.ref p) (upd H1 p (.lst xs))
theorem pe_lstN {es : List Expr} {pos : Pos} {t : TA} (h : PA X es t) : PE X (.List es pos) (tLstN t) := by
  refine ⟨fun pins s σ H Q I hq => ?_⟩
  refine wpAny_List_spliced (thn (h.run pos pins s σ H _ I hq) fun us s1 ⟨xs, H1, I1, r, z, q⟩ => ⟨by rw [← r.length]; exact z, ?_⟩)
  have hf : H1 s1.heap.objs.size = none := I1.hok.fresh (Nat.le_refl _)
  refine ⟨.ref s1.heap.objs.size, upd H1 s1.heap.objs.size (.lst xs), I1.laid (t' := s1.toks) (fun b u e => Heap.get?_push_of_some _ e) (Nat.le_refl _) ?_, rfl, q _ hf (beq_eq_false_iff_ne.mpr (Ne.symm (Nat.ne_of_lt I1.big)))⟩
  exact ⟨z, us, 0, r, Heap.get?_push_size _ rfl⟩
/-- repr of it -/
theorem call_reprN (hg : X.A.guards = some []) (hu : X.A.units + 65 < cLine) :
    CallR X (.builtin "repr") (fun xs H Q => ∃ p vs ds, xs = [.ref p] ∧ H p = some (.lst vs) ∧ (p == sysModules) = false ∧ All2 (Sm H) vs ds ∧ (PyData.hasDictAll ds = true → ds.all noL = true) ∧ (PyData.list ds).showable = true ∧ (PyData.list ds).shown.length ≤ sizeLine ∧ Q (.str (PyData.list ds).shown) H) := by
  intro pins s σ H xs us Q I r h
  obtain ⟨p, vs, ds, rfl, hp, hn, hs, hl, hsh, hlen, q⟩ := h
  obtain ⟨u, rfl, r1⟩ := vals1 r
  cases r1
  obtain ⟨its, rv, ⟨o, n, ho, hc, _, hd⟩, _⟩ := I.list (SqL.of hp)
  obtain ⟨as, a1, a2⟩ := Sm.readsAll I hs rv
  have rd : Reads s.heap (.ref p) (.list ds) (p :: as) := Reads.list ho hc hd a1
  have dp := Sm.deep hs
  refine repr_of_reads' rd hsh (fun z m => ?_) hg (by simp only [PyData.depth]; omega) (fun _ _ q => q) ?_ hlen
  · rcases List.mem_cons.mp m with m | m
    · rw [← m] at hn; exact absurd hn (by decide)
    · exact a2 (hl z) m
  · intro h' u tk kept
    exact ⟨.str (PyData.list ds).shown, H, I.kept kept, ⟨_, rfl⟩, q⟩
end
end LT

namespace LT
open PySem PySem.Spec PyProof.Rows L2
section
variable {P : Program} {w : World} {K : PySem.W.Frag} {mg : Str → Option Value} {base : Heap}
def spWhole : Sp := fun vs H Q _ => ∃ i : Int, vs = [.int i] ∧ Q (.bl true) H
theorem ok_is_whole {f : Addr} {fd : FuncData} (F : Fun K "is_whole" "is_whole" sIsWhole f fd) (z_isinstance : mg "isinstance" = none) (z_int : mg "int" = none) (z_bool : mg "bool" = none) : FnOk P w K mg base CX0 1 f fd ["value"] spWhole := by
  refine F.ok scIsWhole (fun vs H Q E h => ?_) (fun cdv A outer s H vs Q E hr h => ?_)
  · obtain ⟨i, rfl, _⟩ := h
    rfl
  obtain ⟨i, rfl, q⟩ := h
  refine ⟨_, (pss_one (ps_ret (pe_and (pe_callB call_isi (by rfl) z_isinstance (by decide +kernel) (pa_cons (pv 0) (pa_cons (pe_bltn (v := .ty "int") (u := .type "int") (by rfl) z_int (by decide +kernel) rfl) pa_nil))) (pe_one (pe_not (pe_callB call_isi (by rfl) z_isinstance (by decide +kernel) (pa_cons (pv 0) (pa_cons (pe_bltn (v := .ty "bool") (u := .type "bool") (by rfl) z_bool (by decide +kernel) rfl) pa_nil)))))))), ?_⟩
  refine ⟨_, rfl, _, _, _, _, true, rfl, .ty "int", .base (.int i), kit_ty (by decide +kernel), true, rfl, ?_⟩
  refine ⟨_, rfl, _, _, _, _, false, rfl, .ty "bool", .base (.int i), kit_ty (by decide +kernel), false, rfl, ?_⟩
  exact q
def spBetween : Sp := fun vs H Q _ => ∃ v lo hi : Int, vs = [.int v, .int lo, .int hi] ∧ Q (.bl (decide (lo ≤ v) && decide (v ≤ hi))) H
theorem ok_is_between {f g : Addr} {fd gd : FuncData} (F : Fun K "is_between" "is_between" sIsBetween f fd) (GIsWhole : FnOk P w K mg base CX0 1 g gd ["value"] spWhole) (AIsWhole : At K mg "is_whole" g gd ["value"]) : FnOk P w K mg base CX0 2 f fd ["value", "low", "high"] spBetween := by
  refine F.ok scIsBetween (fun vs H Q E h => ?_) (fun cdv A outer s H vs Q E hr h => ?_)
  · obtain ⟨i, _, _, rfl, _⟩ := h
    rfl
  obtain ⟨v, lo, hi, rfl, q⟩ := h
  refine ⟨_, (pss_one (ps_ret (pe_and (pe_call GIsWhole (hr.mono (by decide)) rfl AIsWhole.m AIsWhole.kp AIsWhole.b .nil pass0 (pa_cons (pv 0) pa_nil)) (pe_one (pe_chain op_le op_le (pv 1) (pv 0) (pv 2)))))), ?_⟩
  refine ⟨_, rfl, v, rfl, true, rfl, ?_⟩
  refine ⟨_, rfl, _, rfl, _, _, rfl, rfl, _, rfl, ?_⟩
  by_cases h1 : lo ≤ v
  · rw [decide_eq_true h1] at q ⊢
    exact ⟨_, rfl, _, _, rfl, rfl, q⟩
  · rw [decide_eq_false h1] at q ⊢
    exact q
def spCheckSize : Sp := fun vs H Q _ => ∃ n : Int, vs = [.int n] ∧ 1 ≤ n ∧ n ≤ 10 ^ 30 ∧ Q .non H
theorem ok_check_size {f g : Addr} {fd gd : FuncData} {t : Tok} (F : Fun K "check_size" "check_size" sCheckSize f fd) (GIsBetween : FnOk P w K mg base CX0 2 g gd ["value", "low", "high"] spBetween) (AIsBetween : At K mg "is_between" g gd ["value", "low", "high"]) (g_MOST_ENTRIES : mg "MOST_ENTRIES" = some (.int 1000000000000000000000000000000 t)) : FnOk P w K mg base CX0 3 f fd ["size"] spCheckSize := by
  refine F.ok scCheckSize (fun vs H Q E h => ?_) (fun cdv A outer s H vs Q E hr h => ?_)
  · obtain ⟨i, rfl, _⟩ := h
    rfl
  obtain ⟨n, rfl, h1, h2, q⟩ := h
  refine ⟨_, (pss_one (ps_if (pt_not (pt_val (pe_call GIsBetween (hr.mono (by decide)) rfl AIsBetween.m AIsBetween.kp AIsBetween.b .nil pass0 (pa_cons (pv 0) (pa_cons pe_int (pa_cons (pe_glob (v := .int 1000000000000000000000000000000) rfl g_MOST_ENTRIES ⟨_, rfl⟩) pa_nil))))))
    (pss_one ps_never)
    pss_nil)), ?_⟩
  refine ⟨_, rfl, n, 1, 1000000000000000000000000000000, rfl, _, rfl, ?_⟩
  rw [decide_eq_true h1, decide_eq_true (show n ≤ 1000000000000000000000000000000 from h2)]
  exact q
end
end LT

namespace LT
open PySem PySem.Spec PyProof.Rows L2
/-- values of the plain kinds, with their types -/
inductive Pl (K : PySem.W.Frag) (H : Hp) : V → String → Prop
  | non : Pl K H .non "NoneType"
  | bl (b : Bool) : Pl K H (.bl b) "bool"
  | int (i : Int) : Pl K H (.int i) "int"
  | str (s : Str) : Pl K H (.str s) "str"
  | lst {a : Addr} {xs : List V} : H a = some (.lst xs) → Pl K H (.ref a) "list"
  | tup {a : Addr} {xs : List V} : H a = some (.tup xs) → Pl K H (.ref a) "tuple"
  | dict {a : Addr} {kvs : List (Key × V)} : H a = some (.dK kvs) → Pl K H (.ref a) "dict"
theorem Pl.ty {K : PySem.W.Frag} {H : Hp} {v : V} {t : String} (h : Pl K H v t) : TyX K H v (.type t) := by
  cases h with
  | non => exact .base .non
  | bl b => exact .base (.bl b)
  | int i => exact .base (.int i)
  | str s => exact .base (.str s)
  | lst e => exact .base (.lst e)
  | tup e => exact .base (.tup e)
  | dict e => exact .base (.dK e)
def isInt : V → Bool
  | .int _ => true
  | _ => false
def inRange (lo hi : Int) : V → Bool
  | .int i => decide (lo ≤ i) && decide (i ≤ hi)
  | _ => false
section
variable {P : Program} {w : World} {K : PySem.W.Frag} {mg : Str → Option Value} {base : Heap}
def spWholeV (K : PySem.W.Frag) : Sp := fun vs H Q _ => ∃ (v : V) (t : String), vs = [v] ∧ Pl K H v t ∧ Q (.bl (isInt v)) H
theorem ok_is_wholeV {f : Addr} {fd : FuncData} (F : Fun K "is_whole" "is_whole" sIsWhole f fd) (z_isinstance : mg "isinstance" = none) (z_int : mg "int" = none) (z_bool : mg "bool" = none) : FnOk P w K mg base CX0 1 f fd ["value"] (spWholeV K) := by
  refine F.ok scIsWhole (fun vs H Q E h => ?_) (fun cdv A outer s H vs Q E hr h => ?_)
  · obtain ⟨_, _, rfl, _⟩ := h
    rfl
  obtain ⟨v, t, rfl, hv, q⟩ := h
  refine ⟨_, (pss_one (ps_ret (pe_and (pe_callB call_isi (by rfl) z_isinstance (by decide +kernel) (pa_cons (pv 0) (pa_cons (pe_bltn (v := .ty "int") (u := .type "int") (by rfl) z_int (by decide +kernel) rfl) pa_nil))) (pe_one (pe_not (pe_callB call_isi (by rfl) z_isinstance (by decide +kernel) (pa_cons (pv 0) (pa_cons (pe_bltn (v := .ty "bool") (u := .type "bool") (by rfl) z_bool (by decide +kernel) rfl) pa_nil)))))))), ?_⟩
  cases hv with
  | non => exact ⟨_, rfl, _, _, _, _, false, rfl, .ty "int", (Pl.non (K := K) (H := H)).ty, kit_ty (by decide +kernel), false, rfl, q⟩
  | bl b => exact ⟨_, rfl, _, _, _, _, true, rfl, .ty "int", (Pl.bl (K := K) (H := H) b).ty, kit_ty (by decide +kernel), true, rfl, _, rfl, _, _, _, _, true, rfl, .ty "bool", (Pl.bl (K := K) (H := H) b).ty, kit_ty (by decide +kernel), true, rfl, q⟩
  | int i => exact ⟨_, rfl, _, _, _, _, true, rfl, .ty "int", (Pl.int (K := K) (H := H) i).ty, kit_ty (by decide +kernel), true, rfl, _, rfl, _, _, _, _, false, rfl, .ty "bool", (Pl.int (K := K) (H := H) i).ty, kit_ty (by decide +kernel), false, rfl, q⟩
  | str s => exact ⟨_, rfl, _, _, _, _, false, rfl, .ty "int", (Pl.str (K := K) (H := H) s).ty, kit_ty (by decide +kernel), false, rfl, q⟩
  | lst e => exact ⟨_, rfl, _, _, _, _, false, rfl, .ty "int", (Pl.lst (K := K) e).ty, kit_ty (by decide +kernel), false, rfl, q⟩
  | tup e => exact ⟨_, rfl, _, _, _, _, false, rfl, .ty "int", (Pl.tup (K := K) e).ty, kit_ty (by decide +kernel), false, rfl, q⟩
  | dict e => exact ⟨_, rfl, _, _, _, _, false, rfl, .ty "int", (Pl.dict (K := K) e).ty, kit_ty (by decide +kernel), false, rfl, q⟩
def spBetweenV (K : PySem.W.Frag) : Sp := fun vs H Q _ => ∃ (v : V) (t : String) (lo hi : Int), vs = [v, .int lo, .int hi] ∧ Pl K H v t ∧ Q (.bl (inRange lo hi v)) H
theorem ok_is_betweenV {f g : Addr} {fd gd : FuncData} (F : Fun K "is_between" "is_between" sIsBetween f fd) (GIsWhole : FnOk P w K mg base CX0 1 g gd ["value"] (spWholeV K)) (AIsWhole : At K mg "is_whole" g gd ["value"]) : FnOk P w K mg base CX0 2 f fd ["value", "low", "high"] (spBetweenV K) := by
  refine F.ok scIsBetween (fun vs H Q E h => ?_) (fun cdv A outer s H vs Q E hr h => ?_)
  · obtain ⟨_, _, _, _, rfl, _⟩ := h
    rfl
  obtain ⟨v, t, lo, hi, rfl, hv, q⟩ := h
  refine ⟨_, (pss_one (ps_ret (pe_and (pe_call GIsWhole (hr.mono (by decide)) rfl AIsWhole.m AIsWhole.kp AIsWhole.b .nil pass0 (pa_cons (pv 0) pa_nil)) (pe_one (pe_chain op_le op_le (pv 1) (pv 0) (pv 2)))))), ?_⟩
  refine ⟨_, rfl, v, t, rfl, hv, isInt v, rfl, ?_⟩
  cases v with
  | int i =>
    have q' : Q (.bl (decide (lo ≤ i) && decide (i ≤ hi))) H := q
    refine ⟨_, rfl, _, rfl, _, _, rfl, rfl, _, rfl, ?_⟩
    by_cases h1 : lo ≤ i
    · rw [decide_eq_true h1] at q' ⊢
      exact ⟨_, rfl, _, _, rfl, rfl, q'⟩
    · rw [decide_eq_false h1] at q' ⊢
      exact q'
  | non => exact q
  | bl _ => exact q
  | str _ => exact q
  | byt _ => exact q
  | flt _ => exact q
  | ref _ => exact q
  | ty _ => exact q
theorem whole_of {k : Nat} {f : Addr} {fd : FuncData} (F : FnOk P w K mg base CX0 k f fd ["value"] (spWholeV K)) : FnOk P w K mg base CX0 k f fd ["value"] spWhole :=
  F.imp fun vs H Q E h => by
    obtain ⟨i, rfl, q⟩ := h
    exact ⟨_, _, rfl, .int i, q⟩
theorem between_of {k : Nat} {f : Addr} {fd : FuncData} (F : FnOk P w K mg base CX0 k f fd ["value", "low", "high"] (spBetweenV K)) : FnOk P w K mg base CX0 k f fd ["value", "low", "high"] spBetween :=
  F.imp fun vs H Q E h => by
    obtain ⟨v, lo, hi, rfl, q⟩ := h
    exact ⟨_, _, _, _, rfl, .int v, q⟩
end
end LT

namespace LT
open PySem PySem.Spec PyProof.Rows L2
theorem bits_nat (k : Nat) : Builtin.Int.intBits (k : Int) = if k = 0 then 0 else k.log2 + 1 := by
  unfold Builtin.Int.intBits
  by_cases h : k = 0
  · subst h; rfl
  · rw [if_neg h, if_neg (by simpa using h)]
    rfl
theorem bits_lb {m : Nat} (h : 1 ≤ m) : Builtin.Int.intBits ((m - 1 : Nat) : Int) = lb m := by
  rw [bits_nat]
  unfold lb
  by_cases k : m ≤ 1
  · rw [if_pos k, if_pos (by omega)]
  · rw [if_neg k, if_neg (by omega)]
theorem lb100 {m : Nat} (h : m ≤ 10 ^ 30) : lb m ≤ 100 := lb_le (Nat.le_trans h (by decide))
theorem fmod_of_dvd {a b : Nat} (h : a ∣ b) : Int.fmod (b : Int) (a : Int) = 0 := by
  rw [Int.fmod_eq_emod_of_nonneg _ (Int.natCast_nonneg _)]
  exact Int.emod_eq_zero_of_dvd (Int.natCast_dvd_natCast.mpr h)
end LT

namespace LT
open PySem PySem.Spec PyProof.Rows L2
section
variable {P : Program} {w : World} {K : PySem.W.Frag} {mg : Str → Option Value} {base : Heap}
def spPower : Sp := fun vs H Q _ => ∃ (k : Nat), vs = [.int k] ∧ 1 ≤ k ∧ k ≤ 10 ^ 30 ∧ Q (.int ((2 ^ k.log2 : Nat) : Int)) H
theorem ok_power_within {f : Addr} {fd : FuncData} (F : Fun K "power_within" "power_within" sPowerWithin f fd) : FnOk P w K mg base CX0 1 f fd ["number"] spPower := by
  refine F.ok scPowerWithin (fun vs H Q E h => ?_) (fun cdv A outer s H vs Q E hr h => ?_)
  · obtain ⟨_, rfl, _⟩ := h
    rfl
  obtain ⟨k, rfl, h1, h30, q⟩ := h
  refine ⟨_, (pss_one (ps_ret (pe_op op_shl pe_int (pe_op op_sub (pe_bits (pv 0)) pe_int)))), ?_⟩
  refine ⟨_, rfl, _, rfl, _, _, rfl, rfl, ?_⟩
  dsimp only
  have e : ((Builtin.Int.intBits (k : Int) : Nat) : Int) - 1 = ((k.log2 : Nat) : Int) := by
    rw [bits_nat, if_neg (by omega)]
    omega
  rw [e]
  have l100 : k.log2 < 100 := (Nat.log2_lt (by omega)).mpr (Nat.lt_of_le_of_lt h30 (by decide))
  refine ⟨_, _, rfl, rfl, ⟨Int.natCast_nonneg _, by omega, by decide⟩, ?_⟩
  have e2 : (1 : Int) * 2 ^ ((k.log2 : Nat) : Int).toNat = ((2 ^ k.log2 : Nat) : Int) := by rw [Int.one_mul, Int.toNat_natCast]; exact (Int.natCast_pow 2 _).symm
  show Q (.int ((1 : Int) * 2 ^ ((k.log2 : Nat) : Int).toNat)) H
  rw [e2]
  exact q
end
end LT

namespace LT
open PySem PySem.Spec PyProof.Rows L2
theorem log2_is {r h : Nat} (h1 : 2 ^ h ≤ r) (h2 : r < 2 ^ (h + 1)) : r.log2 = h := (Nat.log2_eq_iff (by have := Nat.pow_pos (a := 2) (n := h) (by decide); omega)).mpr ⟨h1, h2⟩
theorem pk_step : ∀ (i n b : Nat), n % 2 ^ i ≠ 0 → ∃ h, h < i ∧ pk i n b = (b, h) :: pk h n (b + 2 ^ h) ∧ n % 2 ^ i = 2 ^ h + n % 2 ^ h
  | 0, n, b, hr => by simp [Nat.mod_one] at hr
  | i + 1, n, b, hr => by
    rw [mod_succ] at hr
    by_cases t : n.testBit i = true
    · refine ⟨i, Nat.lt_succ_self i, ?_, by rw [mod_succ, if_pos t]⟩
      show (if n.testBit i = true then _ else _) = _
      rw [if_pos t]
    · rw [if_neg t, Nat.zero_add] at hr
      obtain ⟨h, h1, h2, h3⟩ := pk_step i n b hr
      refine ⟨h, by omega, ?_, by rw [mod_succ, if_neg t, Nat.zero_add]; exact h3⟩
      show (if n.testBit i = true then _ else _) = _
      rw [if_neg t]
      exact h2
section
variable {P : Program} {w : World} {K : PySem.W.Frag} {mg : Str → Option Value} {base : Heap}
def spTops : Sp := fun vs H Q _ => ∃ (n : Nat), vs = [.int n] ∧ 1 ≤ n ∧ n ≤ 10 ^ 30 ∧ ∀ (H' : Hp) (p : Addr) (xs : List V), Same H H' → H p = none → H' p = some (.lst xs) → All2 (Nd H') xs ((pk 101 n 0).map full) → Q (.ref p) H'
theorem ok_peaks {f g1 g2 : Addr} {fd d1 d2 : FuncData} (F : Fun K "peaks" "peaks" sPeaks f fd) (GCheckSize : FnOk P w K mg base CX0 3 g1 d1 ["size"] spCheckSize) (ACheckSize : At K mg "check_size" g1 d1 ["size"])
    (GPowerWithin : FnOk P w K mg base CX0 1 g2 d2 ["number"] spPower) (APowerWithin : At K mg "power_within" g2 d2 ["number"]) : FnOk P w K mg base CX0 4 f fd ["size"] spTops := by
  refine F.ok scPeaks (fun vs H Q E h => ?_) (fun cdv A outer s H vs Q E hr h => ?_)
  · obtain ⟨_, rfl, _⟩ := h
    rfl
  obtain ⟨n, rfl, h1, h30, q⟩ := h
  refine ⟨_, (pss_cons (ps_expr (pe_call GCheckSize (hr.mono (by decide)) rfl ACheckSize.m ACheckSize.kp ACheckSize.b .nil pass0 (pa_cons (pv 0) pa_nil)))
    (pss_cons (ps_set (i := 1) scPeaks.nd rfl (Or.inl rfl) (pe_lst pa_nil))
    (pss_cons (ps_set (i := 2) scPeaks.nd rfl (Or.inl rfl) pe_int)
    (pss_cons (ps_while PassesOwn.never (pt_cmpR op_lt (pv 2) (pv 0) (nomark _))
    (pss_cons (ps_set (i := 3) scPeaks.nd rfl (Or.inl rfl) (pe_op op_add (pv 2) (pe_call GPowerWithin (hr.mono (by decide)) rfl APowerWithin.m APowerWithin.kp APowerWithin.b .nil pass0 (pa_cons (pe_op op_sub (pv 0) (pv 2)) pa_nil))))
    (pss_cons (ps_expr (pe_bm PySem.F.plainAttrs_list PySem.F.slot_list_append PySem.F.type_list_append mt_append (pv 1) (pa_cons (pe_tup (pa_cons (pv 2) (pa_cons (pv 3) pa_nil))) pa_nil)))
    (pss_one (ps_set (i := 2) scPeaks.nd rfl (Or.inl rfl) (pv 3))))))
    (pss_one (ps_ret (pv 1))))))), ?_⟩
  refine ⟨_, rfl, n, rfl, by omega, by omega, ?_⟩
  refine ⟨Nat.zero_le _, fun fa nf => ?_⟩
  have nm : n % 2 ^ 101 = n := Nat.mod_eq_of_lt (Nat.lt_of_le_of_lt h30 (by decide))
  refine ⟨fun mu σ H' => ∃ (i b : Nat) (v3 : Option V) (xs : List V) (done : List (Nat × Nat)), σ = [some (.int n), some (.ref fa), some (.int b), v3] ∧ Same H H' ∧ H' fa = some (.lst xs) ∧ All2 (Nd H') xs (done.map full) ∧ done ++ pk i n b = pk 101 n 0 ∧ b + n % 2 ^ i = n ∧ mu = n - b,
    ⟨n, 101, 0, none, [], [], rfl, same_upd nf, upd_same, .nil, rfl, by omega, by omega⟩, ?_⟩
  rintro m σ H1 ⟨i, b, v3, xs, done, rfl, sm, hf, hx, hd, hb, rfl⟩
  refine ⟨_, rfl, _, rfl, _, _, rfl, rfl, _, rfl, ite2 (fun c => ?_) (fun c => ?_)⟩
  · have c1 : (b : Int) < (n : Int) := of_decide_eq_true c
    obtain ⟨h, hi, hp, hm⟩ := pk_step i n b (by omega)
    have ph := Nat.pow_pos (a := 2) (n := h) (by decide)
    have lh : (n - b).log2 = h := log2_is (by omega) (by have := Nat.mod_lt n ph; rw [Nat.pow_succ]; omega)
    have dl : done.length ≤ 101 := by
      have k1 := congrArg List.length hd
      rw [List.length_append] at k1
      have k2 := pk_len 101 n 0
      omega
    refine ⟨fun σ' H' => ∃ mu, mu < n - b ∧ ∃ (i b : Nat) (v3 : Option V) (xs : List V) (done : List (Nat × Nat)), σ' = [some (.int n), some (.ref fa), some (.int b), v3] ∧ Same H H' ∧ H' fa = some (.lst xs) ∧ All2 (Nd H') xs (done.map full) ∧ done ++ pk i n b = pk 101 n 0 ∧ b + n % 2 ^ i = n ∧ mu = n - b, fun σ' H' h => h, ?_⟩
    have e1 : (n : Int) - (b : Int) = ((n - b : Nat) : Int) := by omega
    refine ⟨_, rfl, _, rfl, _, rfl, _, _, rfl, rfl, n - b, congrArg (fun z => [V.int z]) e1, by omega, by omega, _, _, rfl, rfl, ?_⟩
    have e2 : (b : Int) + ((2 ^ (n - b).log2 : Nat) : Int) = ((b + 2 ^ h : Nat) : Int) := by rw [lh]; omega
    dsimp only
    rw [e2]
    refine ⟨_, rfl, .inl ⟨rfl, _, SqL.of hf⟩, _, rfl, _, rfl, (by show 2 ≤ sizeLine; decide), fun t nt => ?_⟩
    have s1 := same_upd (o := .tup [.int (b : Int), .int ((b + 2 ^ h : Nat) : Int)]) nt
    have hf1 := s1 _ _ hf
    refine ⟨fa, _, _, rfl, rfl, hf1, szlt (by rw [hx.len, List.length_map]; omega), ?_⟩
    refine ⟨_, rfl, ?_⟩
    refine ⟨n - (b + 2 ^ h), by omega, h, b + 2 ^ h, _, xs ++ [.ref t], done ++ [(b, h)], rfl, ?_, upd_same, ?_, ?_, by omega, rfl⟩
    · exact fun a o k => by rw [upd_ne (ne_of_none k nf)]; exact s1 _ _ (sm _ _ k)
    · rw [List.map_append]
      refine (hx.mono (fun v x (k : Nd H1 v x) => (k.same s1).upd hf1)).app (.cons ?_ .nil)
      exact Nd.upd (x := full (b, h)) ⟨t, rfl, upd_same⟩ hf1
    · rw [← hd, hp, List.append_assoc]
      rfl
  · have c1 : ¬ (b : Int) < (n : Int) := of_decide_eq_false (Bool.eq_false_iff.mpr c)
    rw [pk_nil i n b (by omega), List.append_nil] at hd
    rw [hd] at hx
    exact ⟨_, rfl, q H1 fa xs sm nf hf hx⟩
end
end LT

namespace LT
open PySem PySem.Spec PyProof.Rows L2
theorem cut_last (xs : List V) : cutV xs none (some (-1)) = xs.dropLast := by
  unfold cutV
  have e : HT.sIx xs.length xs.length (some (-1)) = xs.length - 1 := by
    show (if (-1 : Int) < 0 then ((-1 : Int) + (xs.length : Int)).toNat else min (-1 : Int).toNat xs.length) = _
    rw [if_pos (by decide)]
    omega
  rw [e, HT.sIx_none, List.drop_zero, Nat.sub_zero, List.dropLast_eq_take]
theorem All2.droplast {α : Type} {R : V → α → Prop} : ∀ {vs : List V} {xs : List α}, All2 R vs xs → All2 R vs.dropLast xs.dropLast
  | _, _, .nil => .nil
  | _, _, .cons _ .nil => .nil
  | _, _, .cons h (.cons k t) => .cons h (All2.droplast (.cons k t))
section
variable {P : Program} {w : World} {K : PySem.W.Frag} {mg : Str → Option Value} {base : Heap}
def spEdges : Sp := fun vs H Q _ => ∃ (n : Nat), vs = [.int n] ∧ 1 ≤ n ∧ n ≤ 10 ^ 30 ∧ ∀ (H' : Hp) (p : Addr) (xs : List V), Same H H' → H p = none → H' p = some (.lst xs) → All2 (Nd H') xs (((pk 101 n 0).map full).dropLast.map fun x => (x.1, n)) → Q (.ref p) H'
theorem ok_edges {f g1 : Addr} {fd d1 : FuncData} (F : Fun K "edges" "edges" sEdges f fd) (GPeaks : FnOk P w K mg base CX0 4 g1 d1 ["size"] spTops) (APeaks : At K mg "peaks" g1 d1 ["size"]) : FnOk P w K mg base CX0 5 f fd ["size"] spEdges := by
  refine F.ok scEdges (fun vs H Q E h => ?_) (fun cdv A outer s H vs Q E hr h => ?_)
  · obtain ⟨_, rfl, _⟩ := h
    rfl
  obtain ⟨n, rfl, h1, h30, q⟩ := h
  refine ⟨_, (pss_one (ps_ret (pe_lc (own := [("begin", 1), ("_", 2)]) rfl scEdges.nd (pi_list (pe_slice sl_list (pe_call GPeaks (hr.mono (by decide)) rfl APeaks.m APeaks.kp APeaks.b .nil pass0 (pa_cons (pv 0) pa_nil)) po_none (po_some (pe_un un_neg pe_int)))) (blkOk_by (N := ["size", "begin", "_"]) (sc := defScope sEdges) (by decide +kernel)) (fun _ _ _ _ _ => (pg_tupB (n := 2) rfl (pgs_cons (pg_name (i := 1) scEdges.nd rfl (Or.inl rfl)) (pgs_cons (pg_name (i := 2) scEdges.nd rfl (Or.inl rfl)) pgs_nil)))) (fun _ _ _ _ _ => pts_nil) (fun _ _ _ _ _ => (pe_tup (pa_cons (pv 1) (pa_cons (pv 0) pa_nil))))))), ?_⟩
  refine ⟨_, rfl, n, rfl, h1, h30, fun H1 p xs sm np hp hx => ?_⟩
  have L101 : ((pk 101 n 0).map full).length ≤ 101 := by rw [List.length_map]; exact pk_len 101 n 0
  generalize (pk 101 n 0).map full = L at q hx L101
  refine ⟨1, rfl, -1, rfl, p, _, rfl, SqL.of hp, fun c nc => ?_⟩
  have sc := same_upd (o := .lst (cutV xs none (some (-1)))) nc
  have hc : (upd H1 c (.lst (cutV xs none (some (-1))))) c = some (.lst xs.dropLast) := by rw [upd_same, cut_last]
  have hx1 := (hx.mono (fun v x (k : Nd H1 v x) => k.same sc)).droplast
  generalize upd H1 c (.lst (cutV xs none (some (-1)))) = H2 at hc hx1 sc
  refine ⟨c, rfl, ⟨_, SqL.of hc⟩, fun D nD => lc_list (xs := xs.dropLast) (fun i H' => ∃ ys : List V, Same H2 H' ∧ H' D = some (.lst ys) ∧ All2 (Nd H') ys ((L.dropLast.take i).map fun x => (x.1, n))) ⟨[], same_upd nD, upd_same, .nil⟩ (fun i H' _ ⟨_, k, _⟩ => SqL.of (k _ _ hc)) ?_ ?_⟩
  · rintro i x H3 hi ⟨ys, s3, hD, hy3⟩
    obtain ⟨y, hy, xp, rfl, hxp⟩ := hx1.nth hi
    have il : i < L.dropLast.length := (List.getElem?_eq_some_iff.mp hy).1
    rw [List.length_dropLast] at il
    refine ⟨xp, _, rfl, SqT.of (s3 _ _ hxp), rfl, _, _, rfl, _, _, rfl, rfl, rfl, ?_⟩
    refine ⟨_, rfl, _, rfl, (by show 2 ≤ sizeLine; decide), fun t nt => ?_⟩
    have st := same_upd (o := .tup [.int (y.1 : Int), .int (n : Int)]) nt
    refine ⟨ys, st _ _ hD, szlt (by rw [hy3.len, List.length_map, List.length_take, List.length_dropLast]; omega), ys ++ [.ref t], ?_, upd_same, ?_⟩
    · exact fun a o k => by rw [upd_ne (ne_of_none k nD)]; exact st _ _ (s3 _ _ k)
    · rw [take_more hy, List.map_append]
      exact (hy3.mono (fun v x (k : Nd H3 v x) => (k.same st).upd (st _ _ hD))).app (.cons (Nd.upd (x := (y.1, n)) ⟨t, rfl, upd_same⟩ (st _ _ hD)) .nil)
  rintro H3 ⟨ys, s3, hD, hy3⟩
  have et : L.dropLast.take xs.dropLast.length = L.dropLast := List.take_of_length_le (by rw [hx1.len]; exact Nat.le_refl _)
  rw [et] at hy3
  refine q H3 D ys (sm.trans (sc.trans s3)) ?_ hD hy3
  exact (sm.trans sc).free nD
end
end LT

namespace LT
open PySem PySem.Spec PyProof.Rows L2
theorem fm0 (x : Int) {m : Int} (h : 0 < m) : 0 ≤ x.fmod m := by
  rw [Int.fmod_eq_emod_of_nonneg _ (by omega)]
  exact Int.emod_nonneg _ (by omega)
theorem fm1 (x : Int) {m : Int} (h : 0 < m) : x.fmod m < m := by
  rw [Int.fmod_eq_emod_of_nonneg _ (by omega)]
  exact Int.emod_lt_of_pos _ h
def CPowW (i j : Int) : Prop := 0 ≤ j ∧ (Builtin.Int.intBits i : Int) * j ≤ 2 ^ 27
theorem op_powW {X : Cx} : OpR X (binaryOp .Pow) (rI CPowW fun i j => .int (i ^ j.toNat)) := opI fun _ _ _ _ _ _ _ hc q => pow_int hc.1 hc.2 q
theorem intBits_le {i : Int} {k : Nat} (h : i.natAbs < 2 ^ k) : Builtin.Int.intBits i ≤ k := by
  unfold Builtin.Int.intBits
  split
  · omega
  · rename_i c
    have : i.natAbs ≠ 0 := by simpa using c
    have := (Nat.log2_lt this).mpr h
    omega
theorem powW3 {i : Int} (h : i.natAbs < 2 ^ 1000) : CPowW i 3 := by
  have := intBits_le h
  refine ⟨by decide, ?_⟩
  omega
/-- a reel: three ints, the last one a count -/
def ReelAt (H : Hp) (b : Addr) (c : Nat) : Prop := ∃ x y z : Int, H b = some (.lst [.int x, .int y, .int z]) ∧ y.natAbs < 2 ^ 200 ∧ 0 ≤ z ∧ z ≤ c
theorem ReelAt.same {H H' : Hp} {b : Addr} {c : Nat} (h : ReelAt H b c) (s : Same H H') : ReelAt H' b c := by
  obtain ⟨x, y, z, e, r⟩ := h
  exact ⟨x, y, z, s _ _ e, r⟩
theorem ReelAt.mono {H : Hp} {b : Addr} {c d : Nat} (h : ReelAt H b c) (k : c ≤ d) : ReelAt H b d := by
  obtain ⟨x, y, z, e, r1, r2, r3⟩ := h
  exact ⟨x, y, z, e, r1, r2, by omega⟩
theorem ReelAt.ne {H : Hp} {b p : Addr} {c : Nat} (h : ReelAt H b c) (n : H p = none) : p ≠ b := fun z => by
  obtain ⟨_, _, _, e, _⟩ := h
  rw [← z, n] at e
  cases e
theorem ReelAt.upd {H : Hp} {b p : Addr} {c : Nat} {o : HO} (h : ReelAt H b c) (n : p ≠ b) : ReelAt (upd H p o) b c := by
  obtain ⟨x, y, z, e, r⟩ := h
  exact ⟨x, y, z, by rw [upd_ne (fun z => n z.symm)]; exact e, r⟩
section
variable {P : Program} {w : World} {K : PySem.W.Frag} {mg : Str → Option Value} {base : Heap}
def spWound (K : PySem.W.Frag) : Sp := fun vs H Q _ => ∃ (a : Addr) (ns : List Int) (k : Nat), vs = [.ref a, .int k] ∧ SqL K H a (ns.map V.int) ∧ k ≤ 63 ∧ ∀ (H' : Hp) (p : Addr), Same H H' → H p = none → ReelAt H' p 0 → Q (.ref p) H'
theorem ok_law_wound {f : Addr} {fd : FuncData} (F : Fun K "_law_wound" "_law_wound" sLawWound f fd) (z_max : mg "max" = none) (z_len : mg "len" = none) (z_int : mg "int" = none) : FnOk P w K mg base CX0 1 f fd ["script", "k"] (spWound K) := by
  refine F.ok scLawWound (fun vs H Q E h => ?_) (fun cdv A outer s H vs Q E hr h => ?_)
  · obtain ⟨_, _, _, rfl, _⟩ := h
    rfl
  obtain ⟨a, ns, k, rfl, hS, hk, q⟩ := h
  refine ⟨_, (pss_cons (ps_set (i := 2) scLawWound.nd rfl (Or.inl rfl) pe_int)
    (pss_cons (ps_if (pt_cmpR op_lt (pv 1) (pe_callB call_len_seq (by rfl) z_len PySem.boot_len (pa_cons (pv 0) pa_nil)) (nomark _))
    (pss_one (ps_set (i := 2) scLawWound.nd rfl (Or.inl rfl) (pe_ix ix_list (pv 0) (pv 1) (fun _ _ => rfl))))
    pss_nil)
    (pss_one (ps_ret (pe_lst (pa_cons (pe_callB (call_max2 rfl) (by rfl) z_max (by decide +kernel) (pa_cons pe_int (pa_cons (pe_op op_sub (pv 2) (pe_op op_pow pe_int pe_int)) pa_nil))) (pa_cons (pe_op op_add (pe_op op_add (pe_op op_mul (pe_op op_modN (pe_callTy call_int1 (by rfl) z_int (by decide +kernel) (pa_cons (pv 2) pa_nil)) (pe_op op_add (pe_op op_pow pe_int pe_int) pe_int)) pe_int) (pe_op op_mul pe_int (pv 1))) pe_int) (pa_cons pe_int pa_nil)))))))), ?_⟩
  have fin : ∀ (cell : Int), Q (.ref 0) H → True := fun _ _ => trivial
  refine ⟨_, rfl, _, rfl, a, _, rfl, .inl hS, _, _, rfl, rfl, _, rfl, ite2 (fun c => ?_) (fun c => ?_)⟩
  · have c1 : (k : Int) < ((ns.map V.int).length : Int) := of_decide_eq_true c
    have c2 : k < (ns.map V.int).length := by omega
    have c3 : k < ns.length := by rw [List.length_map] at c2; exact c2
    have e : (ns.map V.int)[k]? = some (.int ns[k]) := by rw [List.getElem?_map, List.getElem?_eq_getElem c3]; rfl
    generalize ns[k] = cell at e
    refine ⟨_, rfl, _, rfl, a, _, _, _, rfl, rfl, hS, atI_nat e, ?_⟩
    refine ⟨_, rfl, _, _, rfl, rfl, ⟨by decide, by decide, by decide⟩, _, _, rfl, rfl, _, _, rfl, _, rfl, .inl ⟨_, rfl, _, _, rfl, rfl, ⟨by decide, by decide, by decide⟩, _, _, rfl, rfl, _, _, rfl, rfl, (by show (10 ^ (38 : Int).toNat + 133 : Int) ≠ 0; decide), _, _, rfl, rfl, .inr ⟨by decide, by decide⟩, _, rfl, _, _, rfl, rfl, .inl ⟨by decide, by decide⟩, _, _, rfl, rfl, _, _, rfl, rfl, (by show 3 ≤ sizeLine; decide), fun p np => ?_⟩⟩
    have f0 := fm0 cell (m := 10 ^ (38 : Int).toNat + 133) (by decide)
    have f1 := fm1 cell (m := 10 ^ (38 : Int).toNat + 133) (by decide)
    have e10 : (10 : Int) ^ (38 : Int).toNat = 100000000000000000000000000000000000000 := by decide
    rw [e10] at f0 f1
    refine q _ p (same_upd np) np ⟨_, _, _, upd_same, ?_, by decide, by decide⟩
    rw [e10]
    generalize cell.fmod (100000000000000000000000000000000000000 + 133) = z at f0 f1
    omega
  · refine ⟨_, rfl, _, _, rfl, rfl, ⟨by decide, by decide, by decide⟩, _, _, rfl, rfl, _, _, rfl, _, rfl, .inl ⟨_, rfl, _, _, rfl, rfl, ⟨by decide, by decide, by decide⟩, _, _, rfl, rfl, _, _, rfl, rfl, (by show (10 ^ (38 : Int).toNat + 133 : Int) ≠ 0; decide), _, _, rfl, rfl, .inr ⟨by decide, by decide⟩, _, rfl, _, _, rfl, rfl, .inl ⟨by decide, by decide⟩, _, _, rfl, rfl, _, _, rfl, rfl, (by show 3 ≤ sizeLine; decide), fun p np => ?_⟩⟩
    have f0 := fm0 0 (m := 10 ^ (38 : Int).toNat + 133) (by decide)
    have f1 := fm1 0 (m := 10 ^ (38 : Int).toNat + 133) (by decide)
    have e10 : (10 : Int) ^ (38 : Int).toNat = 100000000000000000000000000000000000000 := by decide
    rw [e10] at f0 f1
    refine q _ p (same_upd np) np ⟨_, _, _, upd_same, ?_, by decide, by decide⟩
    rw [e10]
    generalize (0 : Int).fmod (100000000000000000000000000000000000000 + 133) = z at f0 f1
    omega
def spSpin : Sp := fun vs H Q _ => ∃ (b : Addr) (many : Int) (c : Nat), vs = [.ref b, .int many] ∧ 0 < many ∧ many.natAbs < 2 ^ 250 ∧ ReelAt H b c ∧ c ≤ 10 ^ 9 ∧
  ∀ (r : Nat) (H' : Hp), (r : Int) < many → (∀ a, a ≠ b → H' a = H a) → ReelAt H' b (c + 1) → Q (.int r) H'
theorem ok_law_spin {f : Addr} {fd : FuncData} (F : Fun K "_law_spin" "_law_spin" sLawSpin f fd) (z_int : mg "int" = none) : FnOk P w K mg base CX0 1 f fd ["reel", "many"] spSpin := by
  refine F.ok scLawSpin (fun vs H Q E h => ?_) (fun cdv A outer s H vs Q E hr h => ?_)
  · obtain ⟨_, _, _, rfl, _⟩ := h
    rfl
  obtain ⟨b, many, cn, rfl, hm, hm2, ⟨x, y, z, h0, hy, z0, zc⟩, hc, q0⟩ := h
  have q : ∀ (i : Int) (H' : Hp), (∀ a, a ≠ b → H' a = H a) → ReelAt H' b (cn + 1) → Q (.int (i.fmod many)) H' := fun i H' k1 k2 => by
    have a0 := fm0 i hm
    have a1 := fm1 i hm
    obtain ⟨r, e⟩ := Int.eq_ofNat_of_zero_le a0
    rw [e] at a1 ⊢
    exact q0 r H' a1 k1 k2
  refine ⟨_, (pss_cons (ps_if (pt_cmpR op_gt (pe_ix ix_list (pv 0) pe_int (fun _ _ => rfl)) pe_int (nomark _))
    (pss_cons (ps_set (i := 2) scLawSpin.nd rfl (Or.inl rfl) (pe_op op_modN (pe_callTy call_int1 (by rfl) z_int (by decide +kernel) (pa_cons (pe_ix ix_list (pv 0) pe_int (fun _ _ => rfl)) pa_nil)) (pv 1)))
    (pss_cons (ps_asg (pe_op op_fdivW (pe_ix ix_list (pv 0) pe_int (fun _ _ => rfl)) (pv 1)) (pg_sub (pv 0) pe_int set_list))
    (pss_one (ps_ret (pv 2)))))
    pss_nil)
    (pss_cons (ps_asg (pe_op op_add (pe_ix ix_list (pv 0) pe_int (fun _ _ => rfl)) pe_int) (pg_sub (pv 0) pe_int set_list))
    (pss_cons (ps_set (i := 3) scLawSpin.nd rfl (Or.inl rfl) (pe_op op_modN (pe_callTy call_int1 (by rfl) z_int (by decide +kernel) (pa_cons (pe_op op_powW (pe_op op_add (pe_ix ix_list (pv 0) pe_int (fun _ _ => rfl)) (pe_op op_mul pe_int (pe_ix ix_list (pv 0) pe_int (fun _ _ => rfl)))) pe_int) pa_nil)) (pe_op op_add (pe_op op_pow pe_int pe_int) pe_int)))
    (pss_cons (ps_set (i := 3) scLawSpin.nd rfl (Or.inl rfl) (pe_op op_modN (pe_callTy call_int1 (by rfl) z_int (by decide +kernel) (pa_cons (pe_op op_powW (pe_op op_add (pv 3) (pe_op op_mul pe_int (pe_ix ix_list (pv 0) pe_int (fun _ _ => rfl)))) pe_int) pa_nil)) (pe_op op_add (pe_op op_pow pe_int pe_int) pe_int)))
    (pss_one (ps_ret (pe_op op_modN (pe_callTy call_int1 (by rfl) z_int (by decide +kernel) (pa_cons (pe_op op_fdivW (pv 3) pe_int) pa_nil)) (pv 1)))))))), ?_⟩
  refine ⟨_, rfl, b, _, _, _, rfl, rfl, SqL.of h0, atI_nat (j := 0) rfl, _, _, rfl, rfl, _, rfl, ite2 (fun c => ?_) (fun c => ?_)⟩
  · refine ⟨_, rfl, b, _, _, _, rfl, rfl, SqL.of h0, atI_nat (j := 0) rfl, .inl ⟨_, rfl, _, rfl, _, _, rfl, rfl, by omega, ?_⟩⟩
    refine ⟨_, rfl, b, _, _, _, rfl, rfl, SqL.of h0, atI_nat (j := 0) rfl, _, rfl, _, _, rfl, rfl, wide_div hm hm2 (by decide) (by decide), _, rfl, b, _, _, 0, rfl, rfl, h0, rfl, ?_⟩
    refine ⟨_, rfl, ?_⟩
    exact q x _ (fun a ha => upd_ne ha) ⟨_, y, z, upd_same, hy, z0, by omega⟩
  · refine ⟨_, rfl, b, _, _, _, rfl, rfl, SqL.of h0, atI_nat (j := 2) rfl, _, _, rfl, rfl, _, rfl, b, _, _, 2, rfl, rfl, h0, rfl, ?_⟩
    dsimp only
    have h1 : (upd H b (.lst ([.int x, .int y, .int z].set 2 (.int (z + 1))))) b = some (.lst [.int x, .int y, .int (z + 1)]) := upd_same
    have k1 : ∀ a, a ≠ b → (upd H b (.lst ([.int x, .int y, .int z].set 2 (.int (z + 1))))) a = H a := fun a ha => upd_ne ha
    generalize upd H b (.lst ([.int x, .int y, .int z].set 2 (.int (z + 1)))) = H1 at h1 k1
    refine ⟨_, rfl, b, _, _, _, rfl, rfl, SqL.of h1, atI_nat (j := 1) rfl, _, rfl, b, _, _, _, rfl, rfl, SqL.of h1, atI_nat (j := 2) rfl, _, _, rfl, rfl, .inl ⟨by decide, by decide⟩, _, _, rfl, rfl, _, _, rfl, rfl, powW3 (by omega), .inl ⟨_, rfl, _, _, rfl, rfl, ⟨by decide, by decide, by decide⟩, _, _, rfl, rfl, _, _, rfl, rfl, (by show (10 ^ (42 : Int).toNat + 63 : Int) ≠ 0; decide), ?_⟩⟩
    dsimp only
    have e10 : (10 : Int) ^ (42 : Int).toNat = 1000000000000000000000000000000000000000000 := by decide
    rw [e10]
    have a0 := fm0 ((y + 86028121 * (z + 1)) ^ (3 : Int).toNat) (m := 1000000000000000000000000000000000000000000 + 63) (by decide)
    have a1 := fm1 ((y + 86028121 * (z + 1)) ^ (3 : Int).toNat) (m := 1000000000000000000000000000000000000000000 + 63) (by decide)
    generalize ((y + 86028121 * (z + 1)) ^ (3 : Int).toNat).fmod (1000000000000000000000000000000000000000000 + 63) = mi at a0 a1
    refine ⟨_, rfl, _, rfl, b, _, _, _, rfl, rfl, SqL.of h1, atI_nat (j := 2) rfl, _, _, rfl, rfl, .inl ⟨by decide, by decide⟩, _, _, rfl, rfl, _, _, rfl, rfl, powW3 (by omega), .inl ⟨_, rfl, _, _, rfl, rfl, ⟨by decide, by decide, by decide⟩, _, _, rfl, rfl, _, _, rfl, rfl, (by show (10 ^ (44 : Int).toNat + 57 : Int) ≠ 0; decide), ?_⟩⟩
    dsimp only
    generalize ((mi + 67867967 * (z + 1)) ^ (3 : Int).toNat).fmod (10 ^ (44 : Int).toNat + 57) = mj
    refine ⟨_, rfl, _, _, rfl, rfl, wide_div (by decide) (b := 20) (by decide) (by decide) (by decide), .inl ⟨_, rfl, _, rfl, _, _, rfl, rfl, by omega, ?_⟩⟩
    exact q _ _ k1 ⟨_, _, _, h1, hy, by omega, by omega⟩
end
end LT

namespace LT
open PySem PySem.Spec PyProof.Rows L2
section
variable {P : Program} {w : World} {K : PySem.W.Frag} {mg : Str → Option Value} {base : Heap}
theorem shl_nat (k : Nat) : (1 : Int) * 2 ^ ((k : Nat) : Int).toNat = ((2 ^ k : Nat) : Int) := by rw [Int.one_mul, Int.toNat_natCast]; exact (Int.natCast_pow 2 k).symm
def spDrawnSize : Sp := fun vs H Q _ => ∃ (b : Addr) (c : Nat), vs = [.ref b] ∧ ReelAt H b c ∧ c ≤ 10 ^ 8 ∧
  ∀ (n : Nat) (H' : Hp), 1 ≤ n → n ≤ 10 ^ 30 → But b H H' → ReelAt H' b (c + 5) → Q (.int n) H'
theorem ok_law_drawn_size {f g1 : Addr} {fd d1 : FuncData} (F : Fun K "_law_drawn_size" "_law_drawn_size" sLawDrawnSize f fd) (GLawSpin : FnOk P w K mg base CX0 1 g1 d1 ["reel", "many"] spSpin) (ALawSpin : At K mg "_law_spin" g1 d1 ["reel", "many"]) (z_min : mg "min" = none) (z_int : mg "int" = none) :
    FnOk P w K mg base CX0 2 f fd ["reel"] spDrawnSize := by
  refine F.ok scLawDrawnSize (fun vs H Q E h => ?_) (fun cdv A outer s H vs Q E hr h => ?_)
  · obtain ⟨_, _, rfl, _⟩ := h
    rfl
  obtain ⟨b, c, rfl, hb, hc, q⟩ := h
  refine ⟨_, (pss_cons (ps_par (i := 1) (j := 2) (by rfl) scLawDrawnSize.nd rfl rfl (by decide) rfl rfl (pa_cons (pe_call GLawSpin (hr.mono (by decide)) rfl ALawSpin.m ALawSpin.kp ALawSpin.b .nil pass0 (pa_cons (pv 0) (pa_cons pe_int pa_nil))) (pa_cons (pe_call GLawSpin (hr.mono (by decide)) rfl ALawSpin.m ALawSpin.kp ALawSpin.b .nil pass0 (pa_cons (pv 0) (pa_cons pe_int pa_nil))) pa_nil)) (by rfl))
    (pss_cons (ps_set (i := 3) scLawDrawnSize.nd rfl (Or.inl rfl) (pe_lst (pa_cons (pe_op op_add pe_int (pe_call GLawSpin (hr.mono (by decide)) rfl ALawSpin.m ALawSpin.kp ALawSpin.b .nil pass0 (pa_cons (pv 0) (pa_cons (pe_op op_pow pe_int pe_int) pa_nil)))) (pa_cons (pe_op op_add (pe_op op_shl pe_int (pv 1)) (pe_op op_shl pe_int (pv 2))) (pa_cons (pe_op op_sub (pe_op op_shl pe_int (pe_op op_add (pv 1) pe_int)) pe_int) pa_nil)))))
    (pss_cons (ps_set (i := 3) scLawDrawnSize.nd rfl (Or.inl rfl) (pe_op op_cat (pv 3) (pe_lst (pa_cons (pe_op op_add (pe_op op_sub (pe_op op_sub (pe_op op_shl pe_int (pe_op op_add (pv 1) pe_int)) pe_int) (pe_op op_shl pe_int (pe_callB (call_min2 rfl) (by rfl) z_min (by decide +kernel) (pa_cons (pv 1) (pa_cons (pv 2) pa_nil))))) (pe_callTy call_int1 (by rfl) z_int (by decide +kernel) (pa_cons (pe_cmpR op_eq (pv 1) pe_int (nomark _)) pa_nil))) (pa_cons (pe_op op_add pe_int (pe_call GLawSpin (hr.mono (by decide)) rfl ALawSpin.m ALawSpin.kp ALawSpin.b .nil pass0 (pa_cons (pv 0) (pa_cons pe_int pa_nil)))) pa_nil)))))
    (pss_one (ps_ret (pe_ix ix_list (pv 3) (pe_call GLawSpin (hr.mono (by decide)) rfl ALawSpin.m ALawSpin.kp ALawSpin.b .nil pass0 (pa_cons (pv 0) (pa_cons pe_int pa_nil))) (fun _ _ => rfl))))))), ?_⟩
  refine ⟨_, rfl, b, 99, c, rfl, by decide, by decide, hb, by omega, fun pw H1 p1 k1 b1 => ?_⟩
  refine ⟨_, rfl, b, 99, _, rfl, by decide, by decide, b1, by omega, fun ot H2 o1 k2 b2 => ?_⟩
  refine ⟨_, _, rfl, ?_⟩
  have B2 : But b H H2 := fun a o n h => by rw [k2 a n, k1 a n]; exact h
  refine ⟨_, rfl, _, _, rfl, rfl, ⟨by decide, by decide, by decide⟩, b, _, _, rfl, by decide, by decide, b2, by omega, fun r3 H3 r31 k3 b3 => ?_⟩
  have B3 : But b H H3 := fun a o n h => by rw [k3 a n]; exact B2 a o n h
  refine ⟨_, _, rfl, rfl, ?_⟩
  refine ⟨_, rfl, _, _, rfl, rfl, ⟨Int.natCast_nonneg _, by omega, by decide⟩, _, rfl, _, _, rfl, rfl, ⟨Int.natCast_nonneg _, by omega, by decide⟩, _, _, rfl, rfl, ?_⟩
  refine ⟨_, rfl, _, _, rfl, rfl, _, _, rfl, rfl, ⟨by omega, by omega, by decide⟩, _, _, rfl, rfl, (by show 3 ≤ sizeLine; decide), fun l nl => ?_⟩
  dsimp only
  have ep : (pw : Int) + 1 = ((pw + 1 : Nat) : Int) := by omega
  rw [ep, shl_nat, shl_nat, shl_nat]
  have p0 := Nat.pow_pos (a := 2) (n := pw) (by decide)
  have q0 := Nat.pow_pos (a := 2) (n := ot) (by decide)
  have pb : 2 ^ pw ≤ 2 ^ 98 := Nat.pow_le_pow_right (by decide) (by omega)
  have qb : 2 ^ ot ≤ 2 ^ 98 := Nat.pow_le_pow_right (by decide) (by omega)
  have ps : 2 ^ (pw + 1) = 2 * 2 ^ pw := by rw [Nat.pow_succ]; omega
  have lb_ : l ≠ b := b3.ne nl
  have s4 := same_upd (o := .lst [.int (1 + (r3 : Int)), .int (((2 ^ pw : Nat) : Int) + ((2 ^ ot : Nat) : Int)), .int (((2 ^ (pw + 1) : Nat) : Int) - 1)]) nl
  have h4 : (upd H3 l (.lst [.int (1 + (r3 : Int)), .int (((2 ^ pw : Nat) : Int) + ((2 ^ ot : Nat) : Int)), .int (((2 ^ (pw + 1) : Nat) : Int) - 1)])) l = some (.lst [.int (1 + (r3 : Int)), .int (((2 ^ pw : Nat) : Int) + ((2 ^ ot : Nat) : Int)), .int (((2 ^ (pw + 1) : Nat) : Int) - 1)]) := upd_same
  have B4 := B3.trans (But.of (b := b) s4)
  have b4 := b3.same s4
  generalize upd H3 l (.lst [.int (1 + (r3 : Int)), .int (((2 ^ pw : Nat) : Int) + ((2 ^ ot : Nat) : Int)), .int (((2 ^ (pw + 1) : Nat) : Int) - 1)]) = H4 at h4 B4 b4
  have em : (if (ot : Int) < (pw : Int) then (ot : Int) else (pw : Int)) = ((min pw ot : Nat) : Int) := by split <;> omega
  have mb : 2 ^ (min pw ot) ≤ 2 ^ pw := Nat.pow_le_pow_right (by decide) (by omega)
  have m0 := Nat.pow_pos (a := 2) (n := min pw ot) (by decide)
  refine ⟨_, rfl, _, rfl, _, _, rfl, rfl, _, _, rfl, rfl, ⟨by omega, by omega, by decide⟩, _, _, rfl, rfl, _, rfl, _, rfl, _, _, rfl, ?_⟩
  rw [em]
  refine ⟨_, _, rfl, rfl, ⟨Int.natCast_nonneg _, by omega, by decide⟩, _, _, rfl, rfl, _, rfl, rfl, .inr ⟨_, rfl, _, _, rfl, rfl, ?_⟩⟩
  dsimp only
  rw [ep, shl_nat, shl_nat]
  refine ⟨_, rfl, b, 99, _, rfl, by decide, by decide, b4, by omega, fun r5 H5 r51 k5 b5 => ⟨_, _, rfl, rfl, (by show 2 ≤ sizeLine; decide), fun l2 n2 => ?_⟩⟩
  have B5 : But b H H5 := fun a o n h => by rw [k5 a n]; exact B4 a o n h
  have h5 : H5 l = some _ := (k5 l lb_).trans h4
  have s6 := same_upd (o := .lst [.int (((2 ^ (pw + 1) : Nat) : Int) - 1 - ((2 ^ min pw ot : Nat) : Int) + if decide ((V.int (pw : Int)) = V.int 0) = true then 1 else 0), .int (1 + (r5 : Int))]) n2
  refine ⟨l, l2, _, _, rfl, rfl, s6 _ _ h5, upd_same, (by show 3 + 2 ≤ sizeLine; decide), fun l3 n3 => ?_⟩
  have s7 := same_upd (o := .lst ([.int (1 + (r3 : Int)), .int (((2 ^ pw : Nat) : Int) + ((2 ^ ot : Nat) : Int)), .int (((2 ^ (pw + 1) : Nat) : Int) - 1)] ++ [.int (((2 ^ (pw + 1) : Nat) : Int) - 1 - ((2 ^ min pw ot : Nat) : Int) + if decide ((V.int (pw : Int)) = V.int 0) = true then 1 else 0), .int (1 + (r5 : Int))])) n3
  have hz : (if decide ((V.int (pw : Int)) = V.int 0) = true then (1 : Int) else 0) = if pw = 0 then 1 else 0 := by
    by_cases c : pw = 0
    · subst c; rfl
    · rw [if_neg c]
      exact if_neg (fun z => c (by have := V.int.inj (of_decide_eq_true z); omega))
  have e30 : (10 : Int) ^ (30 : Int).toNat = 1000000000000000000000000000000 := by decide
  rw [e30] at r31
  have hv : ∀ r : Nat, (r : Int) < 5 → ∃ n : Nat, atI ([V.int (1 + (r3 : Int)), .int (((2 ^ pw : Nat) : Int) + ((2 ^ ot : Nat) : Int)), .int (((2 ^ (pw + 1) : Nat) : Int) - 1)] ++ [.int (((2 ^ (pw + 1) : Nat) : Int) - 1 - ((2 ^ min pw ot : Nat) : Int) + if decide ((V.int (pw : Int)) = V.int 0) = true then 1 else 0), .int (1 + (r5 : Int))]) (r : Int) = some (.int (n : Int)) ∧ 1 ≤ n ∧ n ≤ 10 ^ 30 := by
    intro r hr5
    have key : ∀ (i : Int), (1 ≤ i ∧ i ≤ 10 ^ 30) → ∀ (o : Option V), o = some (.int i) → ∃ n : Nat, o = some (.int (n : Int)) ∧ 1 ≤ n ∧ n ≤ 10 ^ 30 := fun i hi o ho => by
      obtain ⟨n, rfl⟩ := Int.eq_ofNat_of_zero_le (show 0 ≤ i by omega)
      exact ⟨n, ho, by omega, by omega⟩
    rw [hz]
    have : r = 0 ∨ r = 1 ∨ r = 2 ∨ r = 3 ∨ r = 4 := by omega
    rcases this with rfl | rfl | rfl | rfl | rfl
    · exact key _ (by omega) _ (atI_nat (j := 0) rfl)
    · exact key _ (by omega) _ (atI_nat (j := 1) rfl)
    · exact key _ (by omega) _ (atI_nat (j := 2) rfl)
    · refine key _ ?_ _ (atI_nat (j := 3) rfl)
      by_cases c : pw = 0
      · subst c
        rw [if_pos rfl]
        have : min 0 ot = 0 := by omega
        rw [this]
        decide
      · rw [if_neg c]
        have : 2 ≤ 2 ^ pw := Nat.pow_le_pow_right (n := 2) (by decide) (show 1 ≤ pw by omega)
        omega
    · exact key _ (by omega) _ (atI_nat (j := 4) rfl)
  generalize [V.int (1 + (r3 : Int)), .int (((2 ^ pw : Nat) : Int) + ((2 ^ ot : Nat) : Int)), .int (((2 ^ (pw + 1) : Nat) : Int) - 1)] ++ [.int (((2 ^ (pw + 1) : Nat) : Int) - 1 - ((2 ^ min pw ot : Nat) : Int) + if decide ((V.int (pw : Int)) = V.int 0) = true then 1 else 0), .int (1 + (r5 : Int))] = L at s7 hv ⊢
  have b7 := (b5.same s6).same s7
  have h7 : (upd (upd H5 l2 (.lst [.int (((2 ^ (pw + 1) : Nat) : Int) - 1 - ((2 ^ min pw ot : Nat) : Int) + if decide ((V.int (pw : Int)) = V.int 0) = true then 1 else 0), .int (1 + (r5 : Int))])) l3 (.lst L)) l3 = some (.lst L) := upd_same
  have B7 := (B5.trans (But.of (b := b) s6)).trans (But.of (b := b) s7)
  generalize upd (upd H5 l2 (.lst [.int (((2 ^ (pw + 1) : Nat) : Int) - 1 - ((2 ^ min pw ot : Nat) : Int) + if decide ((V.int (pw : Int)) = V.int 0) = true then 1 else 0), .int (1 + (r5 : Int))])) l3 (.lst L) = H7 at b7 h7 B7
  have l3b : l3 ≠ b := (b5.same s6).ne n3
  refine ⟨_, rfl, _, rfl, b, 5, _, rfl, by decide, by decide, b7, by omega, fun r H8 r8 k8 b8 => ?_⟩
  obtain ⟨n, hn, n1, n30⟩ := hv r r8
  exact ⟨l3, _, _, _, rfl, rfl, SqL.of ((k8 l3 l3b).trans h7), hn, q n H8 n1 n30 (fun a o z h => by rw [k8 a z]; exact B7 a o z h) b8⟩
end
end LT

namespace LT
open PySem PySem.Spec PyProof.Rows L2 PySem.SeqAt PySem.W
section
variable {prog : Program} {w : World} {A : Around} {E : Value → Shared → Prop} {s : Shared}
theorem min_two_data {a b : Value} {x y : PyData} {as : List Addr} {Q : Value → Shared → Prop} (hh : A.handled = none) (hr : ReadsAll s.heap [a, b] [x, y] as) (ha : AlikeAll [x, y]) (hu : A.units + 1 + PyData.depthAll [x, y] < cLine)
    (h : ∀ h' tk, (∀ b o, s.heap.get? b = some o → h'.get? b = some o) → Q (if dataLt y x then b else a) { s with heap := h', toks := tk }) :
    wpAny (model prog w) A (call (.builtin "min") [a, b]) Q E s := by
  have hname : (toString "min" ++ toString ".loop" : String) = "min.loop" := by decide
  refine call_function_tree F.kind_min F.plain_min F.entry_min (F.args_min2 _ _) ?_
  show wpAny _ A.in1 (Builtin.Builtins.bindParams "min" ["key", "default"] 0 ⟨[], []⟩ >>= _) _ _ s
  refine wpAny_bind (wpAny_of_eq (show Builtin.Builtins.bindParams "min" ["key", "default"] 0 ⟨[], []⟩ = pure [none, none] from rfl) ?_)
  show wpAny _ A.in1 (newTuple [a, b] >>= _) _ _ s
  refine wpAny_bind (wpAny_newObj_type ?_)
  have hT : (s.heap.push { cls := .type "tuple", data := .seq #[a, b] }).IsTuple s.heap.objs.size #[a, b] := ⟨_, Heap.get?_push_size _ rfl, rfl, 0, rfl⟩
  have kp : ∀ c o, s.heap.get? c = some o → (s.heap.push { cls := .type "tuple", data := .seq #[a, b] }).get? c = some o := fun c o e => Heap.get?_push_of_some _ e
  have hr1 : ReadsAll (s.heap.push { cls := .type "tuple", data := .seq #[a, b] }) (#[a, b] : Array Value).toList [x, y] as := PyProof.Rows.ReadsAll.keeps kp hr
  refine wpAny_bind (iter_tupleW (A := A.in1) (s := { s with heap := s.heap.push { cls := .type "tuple", data := .seq #[a, b] } }) hh hT fun s₂ e W st hfp hw hk => ?_)
  refine wpAny_bind (wpAny_newObj_type ?_)
  have hSf : s₂.heap.objs.size ∉ _ := fun hm => Nat.lt_irrefl _ (hfp _ hm)
  rw [hname]
  refine wpAny_pure ⟨plainId_quiet F.plain_min_loop _, codeAny_min_loop_firstH W _ hw _ (cmpIn_lt (s := { s with heap := s.heap.push { cls := .type "tuple", data := .seq #[a, b] } }) (A := A.in1) hr1 ha (by show A.units + 1 + _ < _; exact hu)) s₂.heap.objs.size hSf (fresh_in hk) _ (by show 0 < 2; decide) (fun b o e => Heap.get?_push_of_some _ (hk b o e)) (W.frame 0 s₂ _ s₂.toks st (Nat.le_refl _) fun b _ o e => Heap.get?_push_of_some _ e) (Heap.get?_push_size _ rfl) fun v s' hP hm => ?_⟩
  have m := Moved.drop_new (tk := s₂.toks) hm (Nat.le_refl _)
  obtain ⟨h', tk, rfl, hk'⟩ := moved_old e rfl m
  have hv : v = if dataLt y x then b else a := by
    have hP' : (#[a, b] : Array Value)[if dataLt y x then 1 else 0]? = some v := hP
    cases hd : dataLt y x with
    | true => rw [hd] at hP'; exact (Option.some.inj hP').symm
    | false => rw [hd] at hP'; exact (Option.some.inj hP').symm
  rw [hv]
  exact h h' tk fun b o e => hk' b o (kp b o e)
end
theorem call_min2D {X : Cx} (hc : X.calm = true) (hu : X.A.units + 65 < cLine) : CallR X (.builtin "min") (fun xs H Q => ∃ x y d e, xs = [x, y] ∧ Dp X.K H x d ∧ Dp X.K H y e ∧ AlikeAll [d, e] ∧ PyData.depthAll [d, e] ≤ 64 ∧ Q (if dataLt e d then y else x) H) := by
  intro pins s σ H xs us Q I r h
  obtain ⟨x, y, d, e, rfl, hd, he, ha, hl, q⟩ := h
  obtain ⟨as, ra⟩ := Dp.readsAll I [d, e] [x, y] us (.cons hd (.cons he .nil)) r
  obtain ⟨u, u', rfl, r1, r2⟩ := vals2 r
  refine min_two_data (I.ok.hd hc) ra ha (by omega) fun h' tk k => ⟨_, H, I.kept k, ?_, q⟩
  cases dataLt e d with
  | true => exact r2
  | false => exact r1
theorem call_min2DB {X : Cx} {s : Shared} {H : Hp} {sc : Scope} {ce : Env} {fp : List Addr} (hc : X.calm = true) (hu : X.A.units + 65 < cLine) : CallR (X.blk s H sc ce fp) (.builtin "min") (fun xs H Q => ∃ x y d e, xs = [x, y] ∧ Dp X.K H x d ∧ Dp X.K H y e ∧ AlikeAll [d, e] ∧ PyData.depthAll [d, e] ≤ 64 ∧ Q (if dataLt e d then y else x) H) := call_min2D (X := X.blk s H sc ce fp) hc hu
theorem pairs_alike (a b c d : Int) : AlikeAll [.tuple [.int a, .int b], .tuple [.int c, .int d]] := by
  refine ⟨fun x hx y hy => ?_, fun x hx => ?_⟩
  · simp only [List.mem_cons, List.not_mem_nil, or_false] at hx hy
    rcases hx with rfl | rfl <;> rcases hy with rfl | rfl <;> simp [alike, alikeAll]
  · simp only [List.mem_cons, List.not_mem_nil, or_false] at hx
    rcases hx with rfl | rfl <;> exact fun z => nomatch z
end LT

namespace LT
open PySem PySem.Spec PyProof.Rows L2
/-- the digits 1 -/
def ones (n : Nat) : Nat := if h : n = 0 then 0 else n % 2 + ones (n / 2)
termination_by n
decreasing_by omega
theorem ones_zero : ones 0 = 0 := by rw [ones]; rfl
theorem ones_step (n : Nat) : ones n = n % 2 + ones (n / 2) := by
  by_cases h : n = 0
  · subst h; rw [Nat.zero_mod, Nat.zero_div, ones_zero]
  · rw [ones, dif_neg h]
theorem ones_one : ones 1 = 1 := by rw [ones_step]; show 1 + ones 0 = 1; rw [ones_zero]
theorem ones_dbl (n : Nat) : ones (2 * n) = ones n := by rw [ones_step, Nat.mul_mod_right, Nat.zero_add, Nat.mul_div_cancel_left _ (by decide)]
theorem ones_dbl1 (n : Nat) : ones (2 * n + 1) = ones n + 1 := by
  rw [ones_step, show (2 * n + 1) % 2 = 1 by omega, show (2 * n + 1) / 2 = n by omega]; omega
theorem ones_pos {n : Nat} (h : 1 ≤ n) : 1 ≤ ones n := by
  induction n using Nat.strongRecOn with
  | ind n ih =>
    rw [ones_step]
    by_cases c : n % 2 = 1
    · omega
    · have := ih (n / 2) (by omega) (by omega)
      omega
theorem ones_split : ∀ (i a r : Nat), r < 2 ^ i → ones (2 ^ i * a + r) = ones a + ones r
  | 0, a, r, h => by
    have : r = 0 := by simp at h; omega
    subst this
    rw [Nat.pow_zero, Nat.one_mul, Nat.add_zero, ones_zero, Nat.add_zero]
  | i + 1, a, r, h => by
    rw [Nat.pow_succ] at h
    have e : 2 ^ (i + 1) * a + r = 2 * (2 ^ i * a + r / 2) + r % 2 := by
      rw [Nat.pow_succ, Nat.mul_right_comm]
      omega
    have ih := ones_split i a (r / 2) (by omega)
    have s := ones_step r
    have c : r % 2 = 0 ∨ r % 2 = 1 := by omega
    rcases c with c | c
    · rw [e, c, Nat.add_zero, ones_dbl, ih]; omega
    · rw [e, c, ones_dbl1, ih]; omega
theorem ones_pow (i : Nat) : ones (2 ^ i) = 1 := by
  have := ones_split i 1 0 (Nat.pow_pos (by decide))
  rw [Nat.mul_one, Nat.add_zero, ones_one, ones_zero] at this
  exact this
theorem ones_le (i n : Nat) (h : n < 2 ^ i) : ones n ≤ i := by
  induction i generalizing n with
  | zero => have : n = 0 := by simp at h; omega
            subst this; rw [ones_zero]; exact Nat.le_refl _
  | succ i ih =>
    rw [Nat.pow_succ] at h
    have := ih (n / 2) (by omega)
    rw [ones_step]
    omega
theorem ones_le_self (n : Nat) : ones n ≤ n := by
  induction n using Nat.strongRecOn with
  | ind n ih =>
    by_cases c : n = 0
    · subst c; rw [ones_zero]; exact Nat.le_refl _
    · have := ih (n / 2) (by omega)
      rw [ones_step]
      omega
theorem pk_ones : ∀ (i n b : Nat), (pk i n b).length = ones (n % 2 ^ i)
  | 0, n, b => by rw [Nat.pow_zero, Nat.mod_one, ones_zero]; rfl
  | i + 1, n, b => by
    rw [mod_succ]
    have ml := Nat.mod_lt n (Nat.pow_pos (a := 2) (n := i) (by decide))
    by_cases t : n.testBit i = true
    · show (if n.testBit i = true then (b, i) :: pk i n (b + 2 ^ i) else pk i n b).length = _
      rw [if_pos t, if_pos t, List.length_cons, pk_ones i n _]
      have := ones_split i 1 (n % 2 ^ i) ml
      rw [Nat.mul_one, ones_one] at this
      omega
    · show (if n.testBit i = true then (b, i) :: pk i n (b + 2 ^ i) else pk i n b).length = _
      rw [if_neg t, if_neg t, pk_ones i n _, Nat.zero_add]
end LT

namespace LT
open PySem PySem.Spec PyProof.Rows L2
theorem ones_ge (n : Nat) : 2 ^ ones n ≤ n + 1 := by
  induction n using Nat.strongRecOn with
  | ind n ih =>
    by_cases c : n = 0
    · subst c; rw [ones_zero]; decide
    · have := ih (n / 2) (by omega)
      rw [ones_step]
      have d : n % 2 = 0 ∨ n % 2 = 1 := by omega
      rcases d with d | d
      · rw [d, Nat.zero_add]; omega
      · rw [d, Nat.add_comm, Nat.pow_succ]; omega
theorem ones_full (i : Nat) : ones (2 ^ i - 1) = i := by
  induction i with
  | zero => exact ones_zero
  | succ i ih =>
    have p := Nat.pow_pos (a := 2) (n := i) (by decide)
    rw [ones_step, Nat.pow_succ, show (2 ^ i * 2 - 1) % 2 = 1 by omega, show (2 ^ i * 2 - 1) / 2 = 2 ^ i - 1 by omega, ih]
    omega
/-- the least multiple of 2 ^ i from l on -/
def up (l i : Nat) : Nat := (l + 2 ^ i - 1) / 2 ^ i * 2 ^ i
theorem up_ge (l i : Nat) : l ≤ up l i := by
  have p := Nat.pow_pos (a := 2) (n := i) (by decide)
  unfold up
  have h1 := Nat.div_add_mod (l + 2 ^ i - 1) (2 ^ i)
  have h2 := Nat.mod_lt (l + 2 ^ i - 1) p
  rw [Nat.mul_comm] at h1
  omega
theorem up_le {l i m : Nat} (h : l ≤ m) (d : 2 ^ i ∣ m) : up l i ≤ m := by
  have p := Nat.pow_pos (a := 2) (n := i) (by decide)
  obtain ⟨k, rfl⟩ := d
  unfold up
  rw [Nat.mul_comm (2 ^ i) k]
  refine Nat.mul_le_mul_right _ ?_
  rw [← Nat.lt_succ_iff, Nat.div_lt_iff_lt_mul p, Nat.succ_mul, Nat.mul_comm k]
  omega
theorem up_dvd (l i : Nat) : 2 ^ i ∣ up l i := Nat.dvd_mul_left _ _
theorem up_zero (l : Nat) : up l 0 = l := by unfold up; rw [Nat.pow_zero, Nat.div_one, Nat.mul_one]; omega
/-- the last power with a multiple up to m -/
theorem up_best {l m : Nat} (h1 : 1 ≤ l) (h : l ≤ m) : ∃ i, 2 ^ i ≤ m ∧ up l i ≤ m ∧ ones (up l i) ≤ ones m := by
  have far : ∀ k, m < 2 ^ k → m < up l k := fun k hk => by
    have a := up_ge l k
    obtain ⟨c, hc⟩ := up_dvd l k
    have c1 : c ≠ 0 := fun z => by subst z; rw [hc] at a; omega
    have := Nat.le_mul_of_pos_right (2 ^ k) (Nat.pos_of_ne_zero c1)
    omega
  have ex : ∃ i, up l i ≤ m ∧ m < up l (i + 1) := by
    have key : ∀ k, m < up l k → ∃ i, up l i ≤ m ∧ m < up l (i + 1) := by
      intro k
      induction k with
      | zero => intro z; rw [up_zero] at z; omega
      | succ k ih =>
        intro z
        by_cases c : up l k ≤ m
        · exact ⟨k, c, z⟩
        · exact ih (by omega)
    exact key m (far m Nat.lt_two_pow_self)
  obtain ⟨i, hi, hj⟩ := ex
  have p := Nat.pow_pos (a := 2) (n := i) (by decide)
  have ge := up_ge l i
  obtain ⟨a, ha⟩ := up_dvd l i
  have a1 : 1 ≤ a := by
    have : a ≠ 0 := fun z => by subst z; omega
    omega
  have odd : a % 2 = 1 := by
    have d : a % 2 = 0 ∨ a % 2 = 1 := by omega
    rcases d with d | d
    · exfalso
      have : 2 ^ (i + 1) ∣ up l i := by
        rw [ha, Nat.pow_succ, show a = 2 * (a / 2) by omega, ← Nat.mul_assoc]
        exact Nat.dvd_mul_right _ _
      have := up_le ge this
      omega
    · exact d
  have nx : up l (i + 1) ≤ up l i + 2 ^ i := by
    refine up_le (by omega) ?_
    rw [ha, Nat.pow_succ, show 2 ^ i * a + 2 ^ i = 2 ^ i * 2 * ((a + 1) / 2) by
      rw [Nat.mul_assoc, show 2 * ((a + 1) / 2) = a + 1 by omega, Nat.mul_succ]]
    exact Nat.dvd_mul_right _ _
  refine ⟨i, ?_, hi, ?_⟩
  · have := Nat.le_mul_of_pos_right (2 ^ i) a1
    omega
  · have e : m = 2 ^ i * a + (m - up l i) := by omega
    rw [e, ones_split i a _ (by omega), ha]
    have := ones_split i a 0 p
    rw [Nat.add_zero, ones_zero] at this
    omega
/-- c is one less than the fewest digits 1 between l and h, s the first number that has so many -/
def least (l h c s : Nat) : Prop := l ≤ s ∧ s ≤ h ∧ ones s = c + 1 ∧ ∀ m, l ≤ m → m ≤ h → c + 1 ≤ ones m ∧ (ones m = c + 1 → s ≤ m)
def most (l h c s : Nat) : Prop := l ≤ s ∧ s ≤ h ∧ ones s = c + 1 ∧ ∀ m, l ≤ m → m ≤ h → ones m ≤ c + 1 ∧ (ones m = c + 1 → s ≤ m)
theorem least_one {l h c s d t : Nat} (x : least l h c s) (y : least l h d t) : c = d ∧ s = t := by
  obtain ⟨x1, x2, x3, x4⟩ := x
  obtain ⟨y1, y2, y3, y4⟩ := y
  have a := x4 t y1 y2
  have b := y4 s x1 x2
  have e : c = d := by omega
  subst e
  have a2 := a.2 y3
  have b2 := b.2 x3
  omega
theorem most_one {l h c s d t : Nat} (x : most l h c s) (y : most l h d t) : c = d ∧ s = t := by
  obtain ⟨x1, x2, x3, x4⟩ := x
  obtain ⟨y1, y2, y3, y4⟩ := y
  have a := x4 t y1 y2
  have b := y4 s x1 x2
  have e : c = d := by omega
  subst e
  have a2 := a.2 y3
  have b2 := b.2 x3
  omega
/-- the best of the first j candidates -/
def bestUp (l h j c s : Nat) : Prop := l ≤ s ∧ s ≤ h ∧ ones s = c + 1 ∧ ∀ i, i < j → up l i ≤ h → c + 1 ≤ ones (up l i) ∧ (ones (up l i) = c + 1 → s ≤ up l i)
theorem least_of {l h j c s : Nat} (l1 : 1 ≤ l) (x : bestUp l h j c s) (hj : h < 2 ^ j) : least l h c s := by
  obtain ⟨x1, x2, x3, x4⟩ := x
  refine ⟨x1, x2, x3, fun m m1 m2 => ?_⟩
  obtain ⟨i, a, b, d⟩ := up_best l1 m1
  have ij : i < j := (Nat.pow_lt_pow_iff_right (by decide : 1 < 2)).mp (show 2 ^ i < 2 ^ j by omega)
  obtain ⟨k1, k2⟩ := x4 i ij (by omega)
  refine ⟨by omega, fun z => ?_⟩
  have := k2 (by omega)
  omega
/-- the next number with more digits 1 -/
def nxt (s : Nat) : Nat := s ||| (s + 1)
theorem nxt_even (a : Nat) : nxt (2 * a) = 2 * a + 1 := by
  unfold nxt
  apply Nat.eq_of_testBit_eq
  intro i
  rw [Nat.testBit_or]
  cases i with
  | zero => simp [Nat.testBit_zero]
  | succ i =>
    rw [Nat.testBit_succ, Nat.testBit_succ, show (2 * a + 1) / 2 = a by omega, show 2 * a / 2 = a by omega, Bool.or_self]
theorem nxt_odd (a : Nat) : nxt (2 * a + 1) = 2 * nxt a + 1 := by
  unfold nxt
  apply Nat.eq_of_testBit_eq
  intro i
  rw [Nat.testBit_or]
  cases i with
  | zero => simp [Nat.testBit_zero]
  | succ i =>
    rw [Nat.testBit_succ, Nat.testBit_succ, Nat.testBit_succ, show (2 * a + 1) / 2 = a by omega, show (2 * a + 1 + 1) / 2 = a + 1 by omega, show (2 * (a ||| (a + 1)) + 1) / 2 = (a ||| (a + 1)) by omega, Nat.testBit_or]
theorem nxt_is (s : Nat) : s < nxt s ∧ ones (nxt s) = ones s + 1 ∧ ∀ m, s ≤ m → m < nxt s → ones m ≤ ones s := by
  induction s using Nat.strongRecOn with
  | ind s ih =>
    have d : s = 2 * (s / 2) ∨ s = 2 * (s / 2) + 1 := by omega
    rcases d with d | d
    · generalize s / 2 = a at d
      subst d
      rw [nxt_even]
      refine ⟨by omega, by rw [ones_dbl1, ones_dbl], fun m h1 h2 => ?_⟩
      have : m = 2 * a := by omega
      rw [this]
      exact Nat.le_refl _
    · have lt : s / 2 < s := by omega
      obtain ⟨i1, i2, i3⟩ := ih (s / 2) lt
      generalize s / 2 = a at d i1 i2 i3
      subst d
      rw [nxt_odd]
      refine ⟨by omega, by rw [ones_dbl1, ones_dbl1, i2], fun m h1 h2 => ?_⟩
      have sm := ones_step m
      rw [ones_dbl1]
      by_cases c : m / 2 < nxt a
      · have := i3 (m / 2) (by omega) c
        omega
      · have e : m / 2 = nxt a := by omega
        rw [e, i2] at sm
        omega
/-- s so far: none ahead of it has so many digits 1 -/
def firstSo (l s : Nat) : Prop := l ≤ s ∧ ∀ m, l ≤ m → m < s → ones m < ones s
theorem first_next {l s : Nat} (x : firstSo l s) : firstSo l (nxt s) := by
  obtain ⟨a, b, c⟩ := nxt_is s
  refine ⟨by have := x.1; omega, fun m h1 h2 => ?_⟩
  by_cases k : m < s
  · have := x.2 m h1 k; omega
  · have := c m (by omega) h2; omega
theorem most_of {l h s : Nat} (l1 : 1 ≤ l) (x : firstSo l s) (k : s ≤ h) (k2 : h < nxt s) : most l h (ones s - 1) s := by
  have o := ones_pos (n := s) (by have := x.1; omega)
  refine ⟨x.1, k, by omega, fun m h1 h2 => ?_⟩
  by_cases c : m < s
  · have := x.2 m h1 c; omega
  · have := (nxt_is s).2.2 m (by omega) (by omega)
    omega
end LT

namespace LT
open PySem PySem.Spec PyProof.Rows L2
/-- f 0 + .. + f (n - 1) -/
def sumR : Nat → (Nat → Nat) → Nat
  | 0, _ => 0
  | n + 1, f => sumR n f + f n
theorem sumR_congr {f g : Nat → Nat} : ∀ {n : Nat}, (∀ i, i < n → f i = g i) → sumR n f = sumR n g
  | 0, _ => rfl
  | n + 1, h => by
    show sumR n f + f n = sumR n g + g n
    rw [sumR_congr fun i hi => h i (by omega), h n (by omega)]
theorem sumR_add (f g : Nat → Nat) : ∀ n, sumR n (fun i => f i + g i) = sumR n f + sumR n g
  | 0 => rfl
  | n + 1 => by
    show sumR n (fun i => f i + g i) + (f n + g n) = sumR n f + f n + (sumR n g + g n)
    rw [sumR_add f g n]; omega
theorem sumR_const (c : Nat) : ∀ n, sumR n (fun _ => c) = n * c
  | 0 => (Nat.zero_mul c).symm
  | n + 1 => by
    show sumR n (fun _ => c) + c = (n + 1) * c
    rw [sumR_const c n, Nat.succ_mul]
theorem sumR_zero {f : Nat → Nat} {n : Nat} (h : ∀ i, i < n → f i = 0) : sumR n f = 0 := by rw [sumR_congr h, sumR_const, Nat.mul_zero]
theorem sumR_le {f g : Nat → Nat} : ∀ {n : Nat}, (∀ i, i < n → f i ≤ g i) → sumR n f ≤ sumR n g
  | 0, _ => Nat.le_refl _
  | n + 1, h => by
    show sumR n f + f n ≤ sumR n g + g n
    have := sumR_le (n := n) fun i hi => h i (by omega)
    have := h n (by omega)
    omega
theorem sumR_split (f : Nat → Nat) (m : Nat) : ∀ k, sumR (m + k) f = sumR m f + sumR k (fun i => f (m + i))
  | 0 => rfl
  | k + 1 => by
    show sumR (m + k) f + f (m + k) = sumR m f + (sumR k (fun i => f (m + i)) + f (m + k))
    rw [sumR_split f m k]; omega
theorem sumR_head (f : Nat → Nat) (n : Nat) : sumR (n + 1) f = f 0 + sumR n (fun i => f (i + 1)) := by
  have := sumR_split f 1 n
  rw [Nat.add_comm 1 n] at this
  rw [this]
  show 0 + f 0 + _ = _
  rw [Nat.zero_add]
  congr 1
  exact sumR_congr fun i _ => by rw [Nat.add_comm]
theorem sumR_rev (f : Nat → Nat) : ∀ n, sumR n f = sumR n (fun i => f (n - 1 - i))
  | 0 => rfl
  | n + 1 => by
    rw [sumR_head (fun i => f (n + 1 - 1 - i)) n]
    show sumR n f + f n = f (n + 1 - 1 - 0) + sumR n (fun i => f (n + 1 - 1 - (i + 1)))
    rw [sumR_rev f n, Nat.add_sub_cancel, Nat.sub_zero, Nat.add_comm]
    congr 1
    exact sumR_congr fun i hi => by rw [show n - 1 - i = n - (i + 1) by omega]
theorem sumR_swap (f : Nat → Nat → Nat) (m : Nat) : ∀ n, sumR n (fun i => sumR m (fun j => f i j)) = sumR m (fun j => sumR n (fun i => f i j))
  | 0 => (sumR_zero fun _ _ => rfl).symm
  | n + 1 => by
    show sumR n (fun i => sumR m (fun j => f i j)) + sumR m (fun j => f n j) = sumR m (fun j => sumR n (fun i => f i j) + f n j)
    rw [sumR_swap f m n, sumR_add]
theorem sumR_below (c : Nat) : ∀ m, sumR m (fun j => if j < c then 1 else 0) = min c m
  | 0 => by show 0 = min c 0; omega
  | m + 1 => by
    show sumR m (fun j => if j < c then 1 else 0) + (if m < c then 1 else 0) = min c (m + 1)
    rw [sumR_below c m]
    split <;> omega
/-- the sum of quotients -/
def fs (n a b d : Nat) : Nat := sumR n (fun i => (a + i * b) / d)
def tri (n : Nat) : Nat := n * (n - 1) / 2
theorem tri_step (n : Nat) : tri (n + 1) = tri n + n := by
  unfold tri
  rw [Nat.add_sub_cancel]
  cases n with
  | zero => rfl
  | succ k =>
    rw [Nat.add_sub_cancel]
    have e : (k + 1 + 1) * (k + 1) = (k + 1) * k + 2 * (k + 1) := by
      rw [Nat.mul_comm (k + 1) k, ← Nat.add_mul]
    rw [e, Nat.add_mul_div_left _ _ (by decide)]
theorem sumR_lin (a b : Nat) : ∀ n, sumR n (fun i => a + i * b) = n * a + tri n * b
  | 0 => by show 0 = 0 * a + 0 * b; omega
  | n + 1 => by
    show sumR n (fun i => a + i * b) + (a + n * b) = (n + 1) * a + tri (n + 1) * b
    rw [sumR_lin a b n, tri_step, Nat.add_mul, Nat.add_mul, Nat.one_mul]
    omega
/-- whole parts taken off -/
theorem fs_off {n a b d : Nat} (hd : 0 < d) : fs n a b d = tri n * (b / d) + n * (a / d) + fs n (a % d) (b % d) d := by
  have e : fs n a b d = sumR n (fun i => (a / d + i * (b / d)) + (a % d + i * (b % d)) / d) := sumR_congr fun i _ => by
    have h : a + i * b = d * (a / d + i * (b / d)) + (a % d + i * (b % d)) := by
      have h1 := Nat.div_add_mod a d
      have h2 := Nat.div_add_mod b d
      have h3 : i * b = i * (d * (b / d)) + i * (b % d) := by rw [← Nat.mul_add, h2]
      have h4 : d * (a / d + i * (b / d)) = d * (a / d) + i * (d * (b / d)) := by rw [Nat.mul_add, Nat.mul_left_comm]
      omega
    rw [h, Nat.mul_add_div hd]
  rw [e, sumR_add, sumR_lin]
  unfold fs
  omega
/-- counted along the other axis -/
theorem fs_turn {n a b d : Nat} (ha : a < d) (hb : b < d) : fs n a b d = fs ((b * n + a) / d) ((b * n + a) % d) d b := by
  have hd : 0 < d := by omega
  have hN := Nat.div_add_mod (b * n + a) d
  have hr := Nat.mod_lt (b * n + a) hd
  generalize (b * n + a) / d = n' at *
  generalize (b * n + a) % d = a' at *
  have c0 : d * n' = n' * d := Nat.mul_comm _ _
  have cb : b * n = n * b := Nat.mul_comm _ _
  have fle : ∀ i, i < n → (a + i * b) / d ≤ n' := fun i hi => by
    have h1 := Nat.mul_le_mul_right b (show i + 1 ≤ n from hi)
    rw [Nat.succ_mul] at h1
    rw [← Nat.lt_succ_iff, Nat.div_lt_iff_lt_mul hd, Nat.succ_mul]
    omega
  by_cases hn : n' = 0
  · subst hn
    show sumR n _ = sumR 0 _
    exact sumR_zero fun i hi => Nat.le_zero.mp (fle i hi)
  have b0 : 0 < b := by
    rcases Nat.eq_zero_or_pos b with z | z
    · subst z
      have := Nat.le_mul_of_pos_right d (Nat.pos_of_ne_zero hn)
      omega
    · exact z
  have gle : ∀ j, j < n' → (a' + j * d) / b ≤ n := fun j hj => by
    have h1 := Nat.mul_le_mul_right d (show j + 1 ≤ n' from hj)
    rw [Nat.succ_mul] at h1
    rw [← Nat.lt_succ_iff, Nat.div_lt_iff_lt_mul b0, Nat.succ_mul]
    omega
  have e1 : fs n a b d = sumR n (fun i => sumR n' (fun j => if j < (a + i * b) / d then 1 else 0)) := sumR_congr fun i hi => by
    rw [sumR_below, Nat.min_eq_left (fle i hi)]
  have e2 : fs n' a' d b = sumR n' (fun j => sumR n (fun i => if i < (a' + j * d) / b then 1 else 0)) := sumR_congr fun j hj => by
    rw [sumR_below, Nat.min_eq_left (gle j hj)]
  rw [e1, e2, sumR_rev, sumR_swap, sumR_rev]
  refine sumR_congr fun j hj => sumR_congr fun i hi => ?_
  have key : (n' - 1 - j < (a + (n - 1 - i) * b) / d) ↔ (i < (a' + j * d) / b) := by
    show (n' - 1 - j + 1 ≤ _) ↔ (i + 1 ≤ _)
    rw [Nat.le_div_iff_mul_le hd, Nat.le_div_iff_mul_le b0]
    have h1 : (n' - 1 - j + 1) * d + j * d = n' * d := by rw [← Nat.add_mul]; congr 1; omega
    have h2 : (n - 1 - i) * b + (i + 1) * b = n * b := by rw [← Nat.add_mul]; congr 1; omega
    omega
  by_cases k : i < (a' + j * d) / b
  · rw [if_pos k, if_pos (key.mpr k)]
  · rw [if_neg k, if_neg (fun z => k (key.mp z))]
/-- a number by its digits 1 and its quotients -/
theorem legendre : ∀ (j x : Nat), x < 2 ^ (j + 1) → x = ones x + sumR j (fun k => x / 2 ^ (k + 1))
  | 0, x, h => by
    have : x = 0 ∨ x = 1 := by simp at h; omega
    rcases this with rfl | rfl
    · rw [ones_zero]; rfl
    · rw [ones_one]; rfl
  | j + 1, x, h => by
    have ih := legendre j (x / 2) (by rw [Nat.pow_succ] at h; omega)
    have s := ones_step x
    have e : sumR (j + 1) (fun k => x / 2 ^ (k + 1)) = x / 2 + sumR j (fun k => x / 2 / 2 ^ (k + 1)) := by
      rw [sumR_head]
      congr 1
      exact sumR_congr fun k _ => by rw [Nat.div_div_eq_div_mul, Nat.pow_succ 2 (k + 1), Nat.mul_comm]
    rw [e]
    omega
theorem quots {n a b j : Nat} (h : ∀ i, i < n → a + i * b < 2 ^ (j + 1)) : n * a + tri n * b = sumR n (fun i => ones (a + i * b)) + sumR j (fun k => fs n a b (2 ^ (k + 1))) := by
  rw [← sumR_lin]
  have e : sumR n (fun i => a + i * b) = sumR n (fun i => ones (a + i * b) + sumR j (fun k => (a + i * b) / 2 ^ (k + 1))) := sumR_congr fun i hi => legendre j _ (h i hi)
  rw [e, sumR_add, sumR_swap]
  rfl
theorem less_one {n : Nat} {f : Nat → Nat} (h : ∀ i, i < n → 1 ≤ f i) : sumR n f = sumR n (fun i => f i - 1) + n := by
  have e : sumR n f = sumR n (fun i => (f i - 1) + 1) := sumR_congr fun i hi => by have := h i hi; omega
  rw [e, sumR_add, sumR_const, Nat.mul_one]
end LT

namespace LT
open PySem PySem.Spec PyProof.Rows L2
theorem npk_ones {n : Nat} (h : n ≤ 10 ^ 30) : (pk 101 n 0).length = ones n := by rw [pk_ones, Nat.mod_eq_of_lt (Nat.lt_of_le_of_lt h (by decide))]
section
variable {P : Program} {w : World} {K : PySem.W.Frag} {mg : Str → Option Value} {base : Heap}
def spRootSums : Sp := fun vs H Q _ => ∃ (n : Nat), vs = [.int n] ∧ 1 ≤ n ∧ n ≤ 10 ^ 30 ∧ ∀ (H' : Hp), Same H H' → Q (.int ((ones n - 1 : Nat) : Int)) H'
theorem ok_root_sums {f g1 : Addr} {fd d1 : FuncData} (F : Fun K "root_sums" "root_sums" sRootSums f fd) (GEdges : FnOk P w K mg base CX0 5 g1 d1 ["size"] spEdges) (AEdges : At K mg "edges" g1 d1 ["size"]) (z_len : mg "len" = none) : FnOk P w K mg base CX0 6 f fd ["size"] spRootSums := by
  refine F.ok scRootSums (fun vs H Q E h => ?_) (fun cdv A outer s H vs Q E hr h => ?_)
  · obtain ⟨_, rfl, _⟩ := h
    rfl
  obtain ⟨n, rfl, h1, h30, q⟩ := h
  refine ⟨_, (pss_one (ps_ret (pe_callB call_len_seq (by rfl) z_len PySem.boot_len (pa_cons (pe_call GEdges (hr.mono (by decide)) rfl AEdges.m AEdges.kp AEdges.b .nil pass0 (pa_cons (pv 0) pa_nil)) pa_nil)))), ?_⟩
  refine ⟨_, rfl, n, rfl, h1, h30, fun H1 p xs sm np hp hx => ⟨p, xs, rfl, .inl (SqL.of hp), ?_⟩⟩
  dsimp only
  rw [hx.len, List.length_map, List.length_dropLast, List.length_map, npk_ones h30]
  exact q H1 sm
def spStretch : Sp := fun vs H Q _ => ∃ (l h : Nat), vs = [.int l, .int h] ∧ 1 ≤ l ∧ l ≤ h ∧ h ≤ 10 ^ 30 ∧ Q .non H
theorem ok_check_stretch {f g1 : Addr} {fd d1 : FuncData} (F : Fun K "_check_stretch" "_check_stretch" sCheckStretch f fd) (GCheckSize : FnOk P w K mg base CX0 3 g1 d1 ["size"] spCheckSize) (ACheckSize : At K mg "check_size" g1 d1 ["size"]) : FnOk P w K mg base CX0 4 f fd ["low", "high"] spStretch := by
  refine F.ok scCheckStretch (fun vs H Q E h => ?_) (fun cdv A outer s H vs Q E hr h => ?_)
  · obtain ⟨_, _, rfl, _⟩ := h
    rfl
  obtain ⟨l, h, rfl, l1, lh, h30, q⟩ := h
  refine ⟨_, (pss_cons (ps_expr (pe_call GCheckSize (hr.mono (by decide)) rfl ACheckSize.m ACheckSize.kp ACheckSize.b .nil pass0 (pa_cons (pv 0) pa_nil)))
    (pss_cons (ps_expr (pe_call GCheckSize (hr.mono (by decide)) rfl ACheckSize.m ACheckSize.kp ACheckSize.b .nil pass0 (pa_cons (pv 1) pa_nil)))
    (pss_one (ps_if (pt_cmpR op_gt (pv 0) (pv 1) (nomark _))
    (pss_one ps_never)
    pss_nil)))), ?_⟩
  refine ⟨_, rfl, _, rfl, by omega, by omega, _, rfl, _, rfl, by omega, by omega, _, rfl, _, rfl, _, _, rfl, rfl, false, congrArg V.bl (decide_eq_false (by show ¬ (l : Int) > (h : Int); omega)), ?_⟩
  exact q
def spCheapest : Sp := fun vs H Q _ => ∃ (l h : Nat), vs = [.int l, .int h] ∧ 1 ≤ l ∧ l ≤ h ∧ h ≤ 10 ^ 30 ∧ ∀ (H' : Hp) (p : Addr) (c s : Nat), Same H H' → H p = none → Nd H' (.ref p) (c, s) → least l h c s → Q (.ref p) H'
theorem neg_fmod (l i : Nat) : (l : Int) + Int.fmod (-(l : Int)) ((2 ^ i : Nat) : Int) = ((up l i : Nat) : Int) := by
  have p := Nat.pow_pos (a := 2) (n := i) (by decide)
  rw [Int.fmod_eq_emod_of_nonneg _ (Int.natCast_nonneg _)]
  unfold up
  generalize 2 ^ i = m at p
  have h1 := Nat.div_add_mod (l + m - 1) m
  have h2 := Nat.mod_lt (l + m - 1) p
  have e : (-(l : Int)) % (m : Int) = ((m - 1 - (l + m - 1) % m : Nat) : Int) := by
    have h3 : -(l : Int) = ((m - 1 - (l + m - 1) % m : Nat) : Int) + (m : Int) * (-(((l + m - 1) / m : Nat) : Int)) := by
      have h4 : ((m * ((l + m - 1) / m) : Nat) : Int) = (m : Int) * (((l + m - 1) / m : Nat) : Int) := Int.natCast_mul _ _
      rw [Int.mul_neg, ← h4]
      omega
    rw [h3, Int.add_mul_emod_self_left]
    exact Int.emod_eq_of_lt (Int.natCast_nonneg _) (by omega)
  rw [e]
  rw [Nat.mul_comm] at h1
  omega
theorem ok_cheapest {f g1 g2 : Addr} {fd d1 d2 : FuncData} (F : Fun K "cheapest" "cheapest" sCheapest f fd) (GCheckStretch : FnOk P w K mg base CX0 4 g1 d1 ["low", "high"] spStretch) (ACheckStretch : At K mg "_check_stretch" g1 d1 ["low", "high"])
    (GRootSums : FnOk P w K mg base CX0 6 g2 d2 ["size"] spRootSums) (ARootSums : At K mg "root_sums" g2 d2 ["size"]) (z_min : mg "min" = none) : FnOk P w K mg base CX0 7 f fd ["low", "high"] spCheapest := by
  refine F.ok scCheapest (fun vs H Q E h => ?_) (fun cdv A outer s H vs Q E hr h => ?_)
  · obtain ⟨_, _, rfl, _⟩ := h
    rfl
  obtain ⟨l, h, rfl, l1, lh, h30, q⟩ := h
  have two : 2 ≤ sizeLine := by decide
  refine ⟨_, (pss_cons (ps_expr (pe_call GCheckStretch (hr.mono (by decide)) rfl ACheckStretch.m ACheckStretch.kp ACheckStretch.b .nil pass0 (pa_cons (pv 0) (pa_cons (pv 1) pa_nil))))
    (pss_cons (ps_set (i := 2) scCheapest.nd rfl (Or.inl rfl) (pe_tup (pa_cons (pe_call GRootSums (hr.mono (by decide)) rfl ARootSums.m ARootSums.kp ARootSums.b .nil pass0 (pa_cons (pv 0) pa_nil)) (pa_cons (pv 0) pa_nil))))
    (pss_cons (ps_set (i := 3) scCheapest.nd rfl (Or.inl rfl) pe_int)
    (pss_cons (ps_while PassesOwn.never (pt_cmpR op_le (pv 3) (pv 1) (nomark _))
    (pss_cons (ps_set (i := 4) scCheapest.nd rfl (Or.inl rfl) (pe_op op_add (pv 0) (pe_op op_modN (pe_un un_neg (pv 0)) (pv 3))))
    (pss_cons (ps_if (pt_cmpR op_le (pv 4) (pv 1) (nomark _))
    (pss_one (ps_set (i := 2) scCheapest.nd rfl (Or.inl rfl) (pe_callB (call_min2D rfl (units1 hr)) (by rfl) z_min (by decide +kernel) (pa_cons (pv 2) (pa_cons (pe_tup (pa_cons (pe_call GRootSums (hr.mono (by decide)) rfl ARootSums.m ARootSums.kp ARootSums.b .nil pass0 (pa_cons (pv 4) pa_nil)) (pa_cons (pv 4) pa_nil))) pa_nil)))))
    pss_nil)
    (pss_one (ps_set (i := 3) scCheapest.nd rfl (Or.inl rfl) (pe_op op_mul (pv 3) pe_int))))))
    (pss_one (ps_ret (pv 2))))))), ?_⟩
  refine ⟨_, rfl, _, rfl, l, h, rfl, l1, lh, h30, ?_⟩
  refine ⟨_, rfl, l, rfl, l1, by omega, fun H1 s1 => ⟨_, rfl, two, fun t nt => ?_⟩⟩
  have s2 := same_upd (o := .tup [.int ((ones l - 1 : Nat) : Int), .int (l : Int)]) nt
  have ol := ones_pos l1
  have hb1 : bestUp l h 1 (ones l - 1) l := ⟨Nat.le_refl _, lh, by omega, fun i hi _ => by
    have : i = 0 := by omega
    subst this
    rw [up_zero]
    omega⟩
  refine ⟨fun mu σ H' => ∃ (j c s : Nat) (p : Addr) (v4 : Option V), σ = [some (.int (l : Int)), some (.int (h : Int)), some (.ref p), some (.int ((2 ^ j : Nat) : Int)), v4] ∧ Same H H' ∧ H p = none ∧ Nd H' (.ref p) (c, s) ∧ bestUp l h j c s ∧ 1 ≤ j ∧ j ≤ 101 ∧ mu = 101 - j,
    ⟨100, 1, ones l - 1, l, t, none, rfl, s1.trans s2, s1.free nt, ⟨t, rfl, upd_same⟩, hb1, by decide, by decide, rfl⟩, ?_⟩
  rintro mu σ H2 ⟨j, c, s, p, v4, rfl, sm, np, hp, hb, j1, j101, rfl⟩
  have pj := Nat.pow_pos (a := 2) (n := j) (by decide)
  refine ⟨_, rfl, _, rfl, _, _, rfl, rfl, _, rfl, ite2 (fun c1 => ?_) (fun c1 => ?_)⟩
  · have c2 : ((2 ^ j : Nat) : Int) ≤ (h : Int) := of_decide_eq_true c1
    have jl : j < 100 := by
      have : 2 ^ j < 2 ^ 100 := by
        have : (10 : Nat) ^ 30 < 2 ^ 100 := by decide
        omega
      exact (Nat.pow_lt_pow_iff_right (by decide : 1 < 2)).mp this
    have er : ((2 ^ j : Nat) : Int) * 2 = ((2 ^ (j + 1) : Nat) : Int) := by rw [Nat.pow_succ]; omega
    refine ⟨_, fun σ' H' h => h, _, rfl, _, rfl, _, rfl, _, rfl, _, _, rfl, rfl, (by omega), _, _, rfl, rfl, ?_⟩
    dsimp only
    rw [neg_fmod]
    have ug := up_ge l j
    refine ⟨_, rfl, _, rfl, _, _, rfl, rfl, _, rfl, ite2 (fun c3 => ?_) (fun c3 => ?_)⟩
    · have c4 : ((up l j : Nat) : Int) ≤ (h : Int) := of_decide_eq_true c3
      have ou := ones_pos (n := up l j) (by omega)
      refine ⟨_, rfl, _, rfl, up l j, rfl, by omega, by omega, fun H3 s3 => ⟨_, rfl, two, fun t2 nt2 => ?_⟩⟩
      have s4 := same_upd (o := .tup [.int ((ones (up l j) - 1 : Nat) : Int), .int ((up l j : Nat) : Int)]) nt2
      have ht2 : Nd (upd H3 t2 (.tup [.int ((ones (up l j) - 1 : Nat) : Int), .int ((up l j : Nat) : Int)])) (.ref t2) (ones (up l j) - 1, up l j) := ⟨t2, rfl, upd_same⟩
      have s34 := s3.trans s4
      have hp4 := hp.same s34
      generalize upd H3 t2 (.tup [.int ((ones (up l j) - 1 : Nat) : Int), .int ((up l j : Nat) : Int)]) = H4 at s4 ht2 s34 hp4
      refine ⟨_, _, _, _, rfl, hp4.dp, ht2.dp, pairs_alike _ _ _ _, by simp [PyData.depthAll, PyData.depth], ?_⟩
      rw [PySem.W.dataLt_ii]
      obtain ⟨b1, b2, b3, b4⟩ := hb
      have nt20 : H t2 = none := sm.free (s3.free nt2)
      by_cases k : ((ones (up l j) - 1 : Nat) : Int) < (c : Int) ∨ (((ones (up l j) - 1 : Nat) : Int) = (c : Int) ∧ ((up l j : Nat) : Int) < (s : Int))
      · rw [decide_eq_true k]
        refine ⟨_, rfl, _, _, rfl, rfl, .inr ⟨by decide, by decide⟩, ?_⟩
        dsimp only
        rw [er]
        refine ⟨101 - (j + 1), by omega, j + 1, ones (up l j) - 1, up l j, t2, _, rfl, sm.trans s34, nt20, ht2, ⟨ug, by omega, by omega, fun i hi hu => ?_⟩, by omega, by omega, rfl⟩
        by_cases e : i < j
        · have := b4 i e hu
          omega
        · have : i = j := by omega
          subst this
          omega
      · rw [decide_eq_false k]
        refine ⟨_, rfl, _, _, rfl, rfl, .inr ⟨by decide, by decide⟩, ?_⟩
        dsimp only
        rw [er]
        refine ⟨101 - (j + 1), by omega, j + 1, c, s, p, _, rfl, sm.trans s34, np, hp4, ⟨b1, b2, b3, fun i hi hu => ?_⟩, by omega, by omega, rfl⟩
        by_cases e : i < j
        · exact b4 i e hu
        · have : i = j := by omega
          subst this
          omega
    · have c4 : ¬ ((up l j : Nat) : Int) ≤ (h : Int) := of_decide_eq_false (Bool.eq_false_iff.mpr c3)
      refine ⟨_, rfl, _, _, rfl, rfl, .inr ⟨by decide, by decide⟩, ?_⟩
      dsimp only
      rw [er]
      obtain ⟨b1, b2, b3, b4⟩ := hb
      refine ⟨101 - (j + 1), by omega, j + 1, c, s, p, _, rfl, sm, np, hp, ⟨b1, b2, b3, fun i hi hu => ?_⟩, by omega, by omega, rfl⟩
      by_cases e : i < j
      · exact b4 i e hu
      · have : i = j := by omega
        subst this
        omega
  · have c2 : ¬ ((2 ^ j : Nat) : Int) ≤ (h : Int) := of_decide_eq_false (Bool.eq_false_iff.mpr c1)
    exact ⟨_, rfl, q H2 p c s sm np hp (least_of l1 hb (by omega))⟩
def spCostliest : Sp := fun vs H Q _ => ∃ (l h : Nat), vs = [.int l, .int h] ∧ 1 ≤ l ∧ l ≤ h ∧ h ≤ 10 ^ 30 ∧ ∀ (H' : Hp) (p : Addr) (c s : Nat), Same H H' → H p = none → Nd H' (.ref p) (c, s) → most l h c s → Q (.ref p) H'
theorem or_next (s : Nat) : Builtin.bitOr (s : Int) ((s : Int) + 1) = ((nxt s : Nat) : Int) := by
  rw [show (s : Int) + 1 = ((s + 1 : Nat) : Int) from rfl, bitOr_nn (Int.natCast_nonneg _) (Int.natCast_nonneg _), Int.toNat_natCast, Int.toNat_natCast]
  rfl
theorem ok_costliest {f g1 g2 : Addr} {fd d1 d2 : FuncData} (F : Fun K "costliest" "costliest" sCostliest f fd) (GCheckStretch : FnOk P w K mg base CX0 4 g1 d1 ["low", "high"] spStretch) (ACheckStretch : At K mg "_check_stretch" g1 d1 ["low", "high"])
    (GRootSums : FnOk P w K mg base CX0 6 g2 d2 ["size"] spRootSums) (ARootSums : At K mg "root_sums" g2 d2 ["size"]) : FnOk P w K mg base CX0 7 f fd ["low", "high"] spCostliest := by
  refine F.ok scCostliest (fun vs H Q E h => ?_) (fun cdv A outer s H vs Q E hr h => ?_)
  · obtain ⟨_, _, rfl, _⟩ := h
    rfl
  obtain ⟨l, h, rfl, l1, lh, h30, q⟩ := h
  have two : 2 ≤ sizeLine := by decide
  refine ⟨_, (pss_cons (ps_expr (pe_call GCheckStretch (hr.mono (by decide)) rfl ACheckStretch.m ACheckStretch.kp ACheckStretch.b .nil pass0 (pa_cons (pv 0) (pa_cons (pv 1) pa_nil))))
    (pss_cons (ps_set (i := 2) scCostliest.nd rfl (Or.inl rfl) (pv 0))
    (pss_cons (ps_while PassesOwn.never (pt_cmpR op_le (pe_op op_or (pv 2) (pe_op op_add (pv 2) pe_int)) (pv 1) (nomark _))
    (pss_one (ps_set (i := 2) scCostliest.nd rfl (Or.inl rfl) (pe_op op_or (pv 2) (pe_op op_add (pv 2) pe_int)))))
    (pss_one (ps_ret (pe_tup (pa_cons (pe_call GRootSums (hr.mono (by decide)) rfl ARootSums.m ARootSums.kp ARootSums.b .nil pass0 (pa_cons (pv 2) pa_nil)) (pa_cons (pv 2) pa_nil)))))))), ?_⟩
  refine ⟨_, rfl, _, rfl, l, h, rfl, l1, lh, h30, ?_⟩
  refine ⟨_, rfl, ?_⟩
  refine ⟨fun mu σ H' => ∃ (s : Nat), σ = [some (.int (l : Int)), some (.int (h : Int)), some (.int (s : Int))] ∧ H' = H ∧ firstSo l s ∧ s ≤ h ∧ mu = h - s,
    ⟨h - l, l, rfl, rfl, ⟨Nat.le_refl _, fun m a b => absurd b (by omega)⟩, lh, rfl⟩, ?_⟩
  rintro mu σ H2 ⟨s, rfl, rfl, hs, sh, rfl⟩
  have nx := nxt_is s
  refine ⟨_, rfl, _, rfl, _, _, rfl, rfl, _, _, rfl, rfl, _, rfl, _, _, rfl, rfl, _, rfl, ite2 (fun c1 => ?_) (fun c1 => ?_)⟩
  · have c2 : Builtin.bitOr (s : Int) ((s : Int) + 1) ≤ (h : Int) := of_decide_eq_true c1
    rw [or_next] at c2
    refine ⟨_, fun σ' H' h => h, _, rfl, _, rfl, _, _, rfl, rfl, _, _, rfl, rfl, ?_⟩
    dsimp only
    rw [or_next]
    exact ⟨h - nxt s, by omega, nxt s, rfl, rfl, first_next hs, by omega, rfl⟩
  · have c2 : ¬ Builtin.bitOr (s : Int) ((s : Int) + 1) ≤ (h : Int) := of_decide_eq_false (Bool.eq_false_iff.mpr c1)
    rw [or_next] at c2
    refine ⟨_, rfl, s, rfl, by have := hs.1; omega, by omega, fun H3 s3 => ⟨_, rfl, two, fun t nt => ?_⟩⟩
    refine q _ t (ones s - 1) s (s3.trans (same_upd nt)) (s3.free nt) ⟨t, rfl, upd_same⟩ (most_of l1 hs sh (by omega))
end
end LT

namespace LT
open PySem PySem.Spec PyProof.Rows L2
theorem ediv_cast (a b : Nat) : (a : Int) / (b : Int) = ((a / b : Nat) : Int) := (Int.natCast_ediv a b).symm
theorem fmod_cast (a b : Nat) : Int.fmod (a : Int) (b : Int) = ((a % b : Nat) : Int) := by
  rw [Int.fmod_eq_emod_of_nonneg _ (Int.natCast_nonneg _)]
  exact (Int.natCast_emod a b).symm
theorem mulW {a b : Nat} {k l : Nat} (h1 : a < 2 ^ k) (h2 : b < 2 ^ l) (k0 : 0 < k) (l0 : 0 < l) (h : k + l ≤ 1000000) : CMulW (a : Int) (b : Int) := wide_mul (by show a < 2 ^ k; exact h1) (by show b < 2 ^ l; exact h2) k0 l0 h
theorem divW {a b : Nat} {l : Nat} (h0 : 0 < b) (h2 : b < 2 ^ l) (l0 : 0 < l) (h : l ≤ 9000) : CDivW (a : Int) (b : Int) := wide_div (by omega) (by show b < 2 ^ l; exact h2) l0 h
theorem mul_lt {a b k l : Nat} (h1 : a < 2 ^ k) (h2 : b < 2 ^ l) : a * b < 2 ^ (k + l) := by
  rw [Nat.pow_add]
  exact Nat.mul_lt_mul'' h1 h2
theorem pred_mul (n : Nat) : (n : Int) * ((n : Int) - 1) = ((n * (n - 1) : Nat) : Int) := by
  cases n with
  | zero => rfl
  | succ k =>
    rw [Nat.add_sub_cancel, show ((k + 1 : Nat) : Int) - 1 = (k : Int) by omega]
    exact (Int.natCast_mul _ _).symm
section
variable {P : Program} {w : World} {K : PySem.W.Frag} {mg : Str → Option Value} {base : Heap}
def spQuot : Sp := fun vs H Q _ => ∃ (a b n d : Nat), vs = [.int a, .int b, .int n, .int d] ∧ a < 2 ^ 200 ∧ b < 2 ^ 200 ∧ n < 2 ^ 200 ∧ d < 2 ^ 200 ∧ 1 ≤ d ∧ Q (.int ((fs n a b d : Nat) : Int)) H
theorem ok_quotients_sum {f : Addr} {fd : FuncData} (F : Fun K "_quotients_sum" "_quotients_sum" sQuotientsSum f fd) : FnOk P w K mg base CX0 1 f fd ["first", "step", "number", "divisor"] spQuot := by
  refine F.ok scQuotientsSum (fun vs H Q E h => ?_) (fun cdv A outer s H vs Q E hr h => ?_)
  · obtain ⟨_, _, _, _, rfl, _⟩ := h
    rfl
  obtain ⟨a0, b0, n0, d0, rfl, ha, hb, hn, hd, d1, q⟩ := h
  refine ⟨_, (pss_cons (ps_set (i := 4) scQuotientsSum.nd rfl (Or.inl rfl) pe_int)
    (pss_cons (ps_while PassesOwn.never (pt_cmpR op_gt (pv 2) pe_int (nomark _))
    (pss_cons (ps_aug (i := 4) scQuotientsSum.nd rfl (Or.inl rfl) (pe_op op_add (pe_op op_mulW (pe_op op_fdivW (pe_op op_mulW (pv 2) (pe_op op_sub (pv 2) pe_int)) pe_int) (pe_op op_fdivW (pv 1) (pv 3))) (pe_op op_mulW (pv 2) (pe_op op_fdivW (pv 0) (pv 3)))) ip_add)
    (pss_cons (ps_par (i := 1) (j := 0) (by rfl) scQuotientsSum.nd rfl rfl (by decide) rfl rfl (pa_cons (pe_op op_modN (pv 1) (pv 3)) (pa_cons (pe_op op_modN (pv 0) (pv 3)) pa_nil)) (by rfl))
    (pss_cons (ps_par (i := 2) (j := 0) (by rfl) scQuotientsSum.nd rfl rfl (by decide) rfl rfl (pa_cons (pe_op op_fdivW (pe_op op_add (pe_op op_mulW (pv 1) (pv 2)) (pv 0)) (pv 3)) (pa_cons (pe_op op_modN (pe_op op_add (pe_op op_mulW (pv 1) (pv 2)) (pv 0)) (pv 3)) pa_nil)) (by rfl))
    (pss_one (ps_par (i := 1) (j := 3) (by rfl) scQuotientsSum.nd rfl rfl (by decide) rfl rfl (pa_cons (pv 3) (pa_cons (pv 1) pa_nil)) (by rfl)))))))
    (pss_one (ps_ret (pv 4))))), ?_⟩
  refine ⟨fun mu σ H' => ∃ (a b n d t : Nat), σ = [some (.int (a : Int)), some (.int (b : Int)), some (.int (n : Int)), some (.int (d : Int)), some (.int (t : Int))] ∧ H' = H ∧ a < 2 ^ 200 ∧ b < 2 ^ 200 ∧ n < 2 ^ 200 ∧ d < 2 ^ 200 ∧ (1 ≤ n → 1 ≤ d) ∧ t + fs n a b d = fs n0 a0 b0 d0 ∧ mu = d + 0,
    ⟨d0, a0, b0, n0, d0, 0, rfl, rfl, ha, hb, hn, hd, fun _ => d1, Nat.zero_add _, rfl⟩, ?_⟩
  rintro mu σ H1 ⟨a, b, n, d, t, rfl, rfl, ha, hb, hn, hd, d1, hf, hmu⟩
  refine ⟨_, rfl, _, _, rfl, rfl, _, rfl, ite2 (fun c1 => ?_) (fun c1 => ?_)⟩
  · have c2 : (n : Int) > 0 := of_decide_eq_true c1
    have dp : 1 ≤ d := d1 (by omega)
    have bd : b % d < d := Nat.mod_lt _ dp
    have ad : a % d < d := Nat.mod_lt _ dp
    have tn : n * (n - 1) < 2 ^ 400 := mul_lt (k := 200) (l := 200) hn (by omega)
    have trin : tri n < 2 ^ 400 := Nat.lt_of_le_of_lt (Nat.div_le_self _ _) tn
    have bq : b / d < 2 ^ 200 := Nat.lt_of_le_of_lt (Nat.div_le_self _ _) hb
    have aq : a / d < 2 ^ 200 := Nat.lt_of_le_of_lt (Nat.div_le_self _ _) ha
    have nn : b % d * n + a % d < d * (n + 1) := by
      have h1 := Nat.mul_le_mul_right n (show b % d + 1 ≤ d from bd)
      rw [Nat.succ_mul] at h1
      rw [Nat.mul_succ]
      omega
    have nle : (b % d * n + a % d) / d ≤ n := by
      rw [← Nat.lt_succ_iff, Nat.div_lt_iff_lt_mul dp, Nat.mul_comm n.succ d]
      exact nn
    have al : (b % d * n + a % d) % d < d := Nat.mod_lt _ dp
    have off := fs_off (n := n) (a := a) (b := b) dp
    have turn := fs_turn (n := n) ad bd
    have hn1 : (n : Int) - 1 = ((n - 1 : Nat) : Int) := by omega
    refine ⟨_, fun σ' H' h => h, _, rfl, _, rfl, _, rfl, _, _, rfl, rfl, _, _, rfl, rfl, ?_, _, _, rfl, rfl, wide_div (b := 2) (by decide) (by decide) (by decide) (by decide), _, rfl, _, rfl, _, _, rfl, rfl, divW (l := 200) dp hd (by decide) (by decide), _, _, rfl, rfl, ?_, _, rfl, _, rfl, _, rfl, _, _, rfl, rfl, divW (l := 200) dp hd (by decide) (by decide), _, _, rfl, rfl, ?_, _, _, rfl, rfl, _, _, rfl, rfl, ?_⟩
    · rw [hn1]
      exact mulW (k := 200) (l := 200) hn (by omega) (by decide) (by decide) (by decide)
    · show CMulW ((n : Int) * ((n : Int) - 1) / 2) ((b : Int) / (d : Int))
      rw [pred_mul, show ((n * (n - 1) : Nat) : Int) / 2 = ((tri n : Nat) : Int) from ediv_cast _ 2, ediv_cast]
      exact mulW trin bq (by decide) (by decide) (by decide)
    · show CMulW (n : Int) ((a : Int) / (d : Int))
      rw [ediv_cast]
      exact mulW hn aq (by decide) (by decide) (by decide)
    dsimp only
    have dne : (d : Int) ≠ 0 := by omega
    refine ⟨_, rfl, _, rfl, _, _, rfl, rfl, dne, _, rfl, _, rfl, _, _, rfl, rfl, dne, _, _, rfl, ?_⟩
    dsimp only
    rw [fmod_cast, fmod_cast]
    have e1 : ((b % d : Nat) : Int) * (n : Int) + ((a % d : Nat) : Int) = ((b % d * n + a % d : Nat) : Int) := by
      rw [show ((b % d : Nat) : Int) * (n : Int) = ((b % d * n : Nat) : Int) from (Int.natCast_mul _ _).symm]
      rfl
    have bm : b % d < 2 ^ 200 := by omega
    refine ⟨_, rfl, _, rfl, _, _, rfl, rfl, mulW bm hn (by decide) (by decide) (by decide), _, rfl, _, _, rfl, rfl, _, rfl, _, _, rfl, rfl, divW (l := 200) dp hd (by decide) (by decide), _, rfl, _, rfl, _, _, rfl, rfl, mulW bm hn (by decide) (by decide) (by decide), _, rfl, _, _, rfl, rfl, _, rfl, _, _, rfl, rfl, dne, _, _, rfl, ?_⟩
    dsimp only
    rw [e1, ediv_cast, fmod_cast]
    refine ⟨_, rfl, _, rfl, _, _, rfl, ?_⟩
    have e2 : (t : Int) + ((n : Int) * ((n : Int) - 1) / 2 * ((b : Int) / (d : Int)) + (n : Int) * ((a : Int) / (d : Int))) = ((t + (tri n * (b / d) + n * (a / d)) : Nat) : Int) := by
      rw [pred_mul, show ((n * (n - 1) : Nat) : Int) / 2 = ((tri n : Nat) : Int) from ediv_cast _ 2, ediv_cast, ediv_cast]
      rw [show ((tri n : Nat) : Int) * ((b / d : Nat) : Int) = ((tri n * (b / d) : Nat) : Int) from (Int.natCast_mul _ _).symm, show (n : Int) * ((a / d : Nat) : Int) = ((n * (a / d) : Nat) : Int) from (Int.natCast_mul _ _).symm]
      rfl
    refine ⟨b % d, by omega, (b % d * n + a % d) % d, d, (b % d * n + a % d) / d, b % d, t + (tri n * (b / d) + n * (a / d)), ?_, rfl, by omega, hd, by omega, by omega, fun z => ?_, by omega, rfl⟩
    · rw [← e2]
      rfl
    · by_cases c : b % d = 0
      · rw [c, Nat.zero_mul, Nat.zero_add, Nat.div_eq_of_lt ad] at z
        omega
      · omega
  · have c2 : ¬ (n : Int) > 0 := of_decide_eq_false (Bool.eq_false_iff.mpr c1)
    have n0' : n = 0 := by omega
    subst n0'
    have z : fs 0 a b d = 0 := rfl
    rw [z, Nat.add_zero] at hf
    subst hf
    exact ⟨_, rfl, q⟩
def spAlong : Sp := fun vs H Q _ => ∃ (a b n : Nat), vs = [.int a, .int b, .int n] ∧ 1 ≤ a ∧ a < 2 ^ 102 ∧ b < 2 ^ 102 ∧ n < 2 ^ 102 ∧ (∀ i, i < n → a + i * b < 2 ^ 102) ∧ Q (.int ((sumR n (fun i => ones (a + i * b) - 1) : Nat) : Int)) H
theorem ok_roots_along {f g1 : Addr} {fd d1 : FuncData} (F : Fun K "_roots_along" "_roots_along" sRootsAlong f fd) (GQuotientsSum : FnOk P w K mg base CX0 1 g1 d1 ["first", "step", "number", "divisor"] spQuot) (AQuotientsSum : At K mg "_quotients_sum" g1 d1 ["first", "step", "number", "divisor"]) : FnOk P w K mg base CX0 2 f fd ["first", "step", "number"] spAlong := by
  refine F.ok scRootsAlong (fun vs H Q E h => ?_) (fun cdv A outer s H vs Q E hr h => ?_)
  · obtain ⟨_, _, _, rfl, _⟩ := h
    rfl
  obtain ⟨a, b, n, rfl, a1, ha, hb, hn, hx, q⟩ := h
  refine ⟨_, (pss_cons (ps_set (i := 3) scRootsAlong.nd rfl (Or.inl rfl) (pe_op op_sub (pe_op op_add (pe_op op_mulW (pv 2) (pv 0)) (pe_op op_mulW (pe_op op_fdivW (pe_op op_mulW (pv 2) (pe_op op_sub (pv 2) pe_int)) pe_int) (pv 1))) (pv 2)))
    (pss_cons (ps_set (i := 4) scRootsAlong.nd rfl (Or.inl rfl) pe_int)
    (pss_cons (ps_while PassesOwn.never (pt_cmpR op_le (pv 4) (pe_op op_add (pv 0) (pe_op op_mulW (pv 1) (pe_op op_sub (pv 2) pe_int))) (nomark _))
    (pss_cons (ps_aug (i := 3) scRootsAlong.nd rfl (Or.inl rfl) (pe_call GQuotientsSum (hr.mono (by decide)) rfl AQuotientsSum.m AQuotientsSum.kp AQuotientsSum.b .nil pass0 (pa_cons (pv 0) (pa_cons (pv 1) (pa_cons (pv 2) (pa_cons (pv 4) pa_nil))))) ip_sub)
    (pss_one (ps_set (i := 4) scRootsAlong.nd rfl (Or.inl rfl) (pe_op op_mulW (pv 4) pe_int)))))
    (pss_one (ps_ret (pv 3)))))), ?_⟩
  have up : ∀ {x : Nat}, x < 2 ^ 102 → x < 2 ^ 200 := fun h => Nat.lt_trans h (by decide)
  have tn : n * (n - 1) < 2 ^ 400 := mul_lt (k := 200) (l := 200) (up hn) (by have := up hn; omega)
  have trin : tri n < 2 ^ 400 := Nat.lt_of_le_of_lt (Nat.div_le_self _ _) tn
  have c1 : CMulW (n : Int) ((n : Int) - 1) := by
    refine wide_mul (a := 200) (b := 200) (by show n < 2 ^ 200; exact up hn) ?_ (by decide) (by decide) (by decide)
    have := up hn
    omega
  have c2 : CMulW ((n : Int) * ((n : Int) - 1) / 2) (b : Int) := by
    rw [pred_mul, show ((n * (n - 1) : Nat) : Int) / 2 = ((tri n : Nat) : Int) from ediv_cast _ 2]
    exact mulW trin (up hb) (by decide) (by decide) (by decide)
  refine ⟨_, rfl, _, rfl, _, _, rfl, rfl, mulW (up hn) (up ha) (by decide) (by decide) (by decide), _, rfl, _, rfl, _, _, rfl, rfl, _, _, rfl, rfl, c1, _, _, rfl, rfl, wide_div (b := 2) (by decide) (by decide) (by decide) (by decide), _, rfl, _, _, rfl, rfl, c2, _, _, rfl, rfl, _, rfl, _, _, rfl, rfl, ?_⟩
  have e0 : (n : Int) * (a : Int) + (n : Int) * ((n : Int) - 1) / 2 * (b : Int) - (n : Int) = ((n * a + tri n * b : Nat) : Int) - (n : Int) := by
    rw [pred_mul, show ((n * (n - 1) : Nat) : Int) / 2 = ((tri n : Nat) : Int) from ediv_cast _ 2, show (n : Int) * (a : Int) = ((n * a : Nat) : Int) from (Int.natCast_mul _ _).symm, show ((tri n : Nat) : Int) * (b : Int) = ((tri n * b : Nat) : Int) from (Int.natCast_mul _ _).symm]
    rfl
  dsimp only
  rw [e0]
  refine ⟨fun mu σ H' => ∃ (j : Nat) (t : Int), σ = [some (.int (a : Int)), some (.int (b : Int)), some (.int (n : Int)), some (.int t), some (.int ((2 ^ (j + 1) : Nat) : Int))] ∧ H' = H ∧ t + ((sumR j (fun k => fs n a b (2 ^ (k + 1))) : Nat) : Int) = ((n * a + tri n * b : Nat) : Int) - (n : Int) ∧ j ≤ 102 ∧ mu = 102 - j,
    ⟨102, 0, _, rfl, rfl, by show _ + ((0 : Nat) : Int) = _; omega, by decide, rfl⟩, ?_⟩
  rintro mu σ H1 ⟨j, t, rfl, rfl, ht, j102, hmu⟩
  have pj := Nat.pow_pos (a := 2) (n := j + 1) (by decide)
  have c3 : CMulW (b : Int) ((n : Int) - 1) := by
    refine wide_mul (a := 200) (b := 200) (by show b < 2 ^ 200; exact up hb) ?_ (by decide) (by decide) (by decide)
    have := up hn
    omega
  have last : (a : Int) + (b : Int) * ((n : Int) - 1) < 2 ^ 102 := by
    cases n with
    | zero =>
      rw [show ((0 : Nat) : Int) - 1 = -1 by omega, Int.mul_neg, Int.mul_one]
      omega
    | succ k =>
      have := hx k (by omega)
      rw [show ((k + 1 : Nat) : Int) - 1 = (k : Int) by omega, show (b : Int) * (k : Int) = ((k * b : Nat) : Int) by rw [Nat.mul_comm]; exact (Int.natCast_mul _ _).symm]
      omega
  have lastx : (a : Int) + (b : Int) * ((n : Int) - 1) < ((2 ^ (j + 1) : Nat) : Int) → ∀ i, i < n → a + i * b < 2 ^ (j + 1) := fun h i hi => by
    cases n with
    | zero => omega
    | succ k =>
      rw [show ((k + 1 : Nat) : Int) - 1 = (k : Int) by omega, show (b : Int) * (k : Int) = ((k * b : Nat) : Int) by rw [Nat.mul_comm]; exact (Int.natCast_mul _ _).symm] at h
      have := Nat.mul_le_mul_right b (show i ≤ k by omega)
      omega
  refine ⟨_, rfl, _, rfl, _, rfl, _, rfl, _, _, rfl, rfl, _, _, rfl, rfl, c3, _, _, rfl, rfl, _, _, rfl, rfl, _, rfl, ite2 (fun c4 => ?_) (fun c4 => ?_)⟩
  · have c5 : ((2 ^ (j + 1) : Nat) : Int) ≤ (a : Int) + (b : Int) * ((n : Int) - 1) := of_decide_eq_true c4
    have jl : j + 1 < 102 := by
      have h1 : ((2 ^ (j + 1) : Nat) : Int) < 2 ^ 102 := Int.lt_of_le_of_lt c5 last
      have h2 : (2 ^ (j + 1) : Nat) < 2 ^ 102 := by omega
      exact (Nat.pow_lt_pow_iff_right (by decide : 1 < 2)).mp h2
    have pjb : 2 ^ (j + 1) < 2 ^ 200 := Nat.lt_of_le_of_lt (Nat.pow_le_pow_right (n := 2) (by decide) (show j + 1 ≤ 102 by omega)) (by decide)
    have er : ((2 ^ (j + 1) : Nat) : Int) * 2 = ((2 ^ (j + 1 + 1) : Nat) : Int) := by rw [Nat.pow_succ 2 (j + 1)]; omega
    refine ⟨_, fun σ' H' h => h, _, rfl, _, rfl, _, rfl, _, rfl, _, rfl, a, b, n, 2 ^ (j + 1), rfl, up ha, up hb, up hn, pjb, pj, _, _, rfl, rfl, _, rfl, _, _, rfl, rfl, mulW (k := 200) (l := 2) pjb (by decide) (by decide) (by decide) (by decide), ?_⟩
    dsimp only
    refine ⟨102 - (j + 1), by omega, j + 1, t - ((fs n a b (2 ^ (j + 1)) : Nat) : Int), ?_, rfl, ?_, by omega, rfl⟩
    · rw [← er]
      rfl
    · show _ + ((sumR j (fun k => fs n a b (2 ^ (k + 1))) + fs n a b (2 ^ (j + 1)) : Nat) : Int) = _
      omega
  · have c5 : ¬ ((2 ^ (j + 1) : Nat) : Int) ≤ (a : Int) + (b : Int) * ((n : Int) - 1) := of_decide_eq_false (Bool.eq_false_iff.mpr c4)
    have hq := quots (j := j) (lastx (by omega))
    have h1 := less_one (n := n) (f := fun i => ones (a + i * b)) (fun i hi => ones_pos (by omega))
    have et : t = ((sumR n (fun i => ones (a + i * b) - 1) : Nat) : Int) := by
      have h2 : sumR n (fun i => ones (a + i * b)) = sumR n (fun i => ones (a + i * b) - 1) + n := h1
      omega
    subst et
    exact ⟨_, rfl, q⟩
end
end LT

namespace LT
open PySem PySem.Spec PyProof.Rows L2
section
variable {P : Program} {w : World} {K : PySem.W.Frag} {mg : Str → Option Value} {base : Heap}
/-- the sum of root_sums of l, l + 1, .., so many -/
def rt (l m : Nat) : Nat := sumR m (fun i => ones (l + i) - 1)
def spTotal : Sp := fun vs H Q _ => ∃ (l h : Nat), vs = [.int l, .int h] ∧ 1 ≤ l ∧ l ≤ h ∧ h ≤ 10 ^ 30 ∧ Q (.int ((rt l (h + 1 - l) : Nat) : Int)) H
theorem ok_roots_total {f g1 g2 : Addr} {fd d1 d2 : FuncData} (F : Fun K "roots_total" "roots_total" sRootsTotal f fd) (GCheckStretch : FnOk P w K mg base CX0 4 g1 d1 ["low", "high"] spStretch) (ACheckStretch : At K mg "_check_stretch" g1 d1 ["low", "high"])
    (GRootsAlong : FnOk P w K mg base CX0 2 g2 d2 ["first", "step", "number"] spAlong) (ARootsAlong : At K mg "_roots_along" g2 d2 ["first", "step", "number"]) : FnOk P w K mg base CX0 5 f fd ["low", "high"] spTotal := by
  refine F.ok scRootsTotal (fun vs H Q E h => ?_) (fun cdv A outer s H vs Q E hr h => ?_)
  · obtain ⟨_, _, rfl, _⟩ := h
    rfl
  obtain ⟨l, h, rfl, l1, lh, h30, q⟩ := h
  refine ⟨_, (pss_cons (ps_expr (pe_call GCheckStretch (hr.mono (by decide)) rfl ACheckStretch.m ACheckStretch.kp ACheckStretch.b .nil pass0 (pa_cons (pv 0) (pa_cons (pv 1) pa_nil))))
    (pss_one (ps_ret (pe_call GRootsAlong (hr.mono (by decide)) rfl ARootsAlong.m ARootsAlong.kp ARootsAlong.b .nil pass0 (pa_cons (pv 0) (pa_cons pe_int (pa_cons (pe_op op_add (pe_op op_sub (pv 1) (pv 0)) pe_int) pa_nil))))))), ?_⟩
  have b30 : (10 : Nat) ^ 30 + 2 < 2 ^ 102 := by decide
  refine ⟨_, rfl, _, rfl, l, h, rfl, l1, lh, h30, ?_⟩
  refine ⟨_, rfl, _, rfl, _, rfl, _, _, rfl, rfl, _, _, rfl, rfl, l, 1, h + 1 - l, congrArg (fun z => [V.int (l : Int), V.int 1, V.int z]) (by omega), l1, by omega, by decide, by omega, fun i hi => by omega, ?_⟩
  have e : sumR (h + 1 - l) (fun i => ones (l + i * 1) - 1) = rt l (h + 1 - l) := sumR_congr fun i _ => by rw [Nat.mul_one]
  rw [e]
  exact q
end
end LT

namespace LT
open PySem PySem.Spec PyProof.Rows L2
section
variable {P : Program} {w : World} {K : PySem.W.Frag} {mg : Str → Option Value} {base : Heap}
def spNumberBetween : Sp := fun vs H Q _ => ∃ n l h : Int, vs = [.int n, .int l, .int h] ∧ l ≤ n ∧ n ≤ h ∧ Q .non H
theorem ok_check_number_between {f g : Addr} {fd gd : FuncData} (F : Fun K "check_number_between" "check_number_between" sCheckNumberBetween f fd) (GIsBetween : FnOk P w K mg base CX0 2 g gd ["value", "low", "high"] spBetween) (AIsBetween : At K mg "is_between" g gd ["value", "low", "high"]) : FnOk P w K mg base CX0 3 f fd ["number", "least", "most"] spNumberBetween := by
  refine F.ok scCheckNumberBetween (fun vs H Q E h => ?_) (fun cdv A outer s H vs Q E hr h => ?_)
  · obtain ⟨_, _, _, rfl, _⟩ := h
    rfl
  obtain ⟨n, l, h, rfl, h1, h2, q⟩ := h
  refine ⟨_, (pss_one (ps_if (pt_not (pt_val (pe_call GIsBetween (hr.mono (by decide)) rfl AIsBetween.m AIsBetween.kp AIsBetween.b .nil pass0 (pa_cons (pv 0) (pa_cons (pv 1) (pa_cons (pv 2) pa_nil))))))
    (pss_one ps_never)
    pss_nil)), ?_⟩
  refine ⟨_, rfl, _, rfl, _, rfl, n, l, h, rfl, _, rfl, ?_⟩
  rw [decide_eq_true h1, decide_eq_true h2]
  exact q
def spMade : Sp := fun vs H Q _ => ∃ (n : Nat), vs = [.int n] ∧ 1 ≤ n ∧ n ≤ 10 ^ 30 ∧ ∀ (H' : Hp), Same H H' → Q (.int ((n - ones n : Nat) : Int)) H'
theorem ok_made_sums {f g1 : Addr} {fd d1 : FuncData} (F : Fun K "_made_sums" "_made_sums" sMadeSums f fd) (GRootSums : FnOk P w K mg base CX0 6 g1 d1 ["size"] spRootSums) (ARootSums : At K mg "root_sums" g1 d1 ["size"]) : FnOk P w K mg base CX0 7 f fd ["size"] spMade := by
  refine F.ok scMadeSums (fun vs H Q E h => ?_) (fun cdv A outer s H vs Q E hr h => ?_)
  · obtain ⟨_, rfl, _⟩ := h
    rfl
  obtain ⟨n, rfl, n1, n30, q⟩ := h
  refine ⟨_, (pss_one (ps_ret (pe_op op_sub (pe_op op_sub (pv 0) (pe_call GRootSums (hr.mono (by decide)) rfl ARootSums.m ARootSums.kp ARootSums.b .nil pass0 (pa_cons (pv 0) pa_nil))) pe_int))), ?_⟩
  have o1 := ones_pos n1
  have o2 := ones_le_self n
  refine ⟨_, rfl, _, rfl, n, rfl, n1, n30, fun H1 s1 => ⟨_, _, rfl, rfl, _, _, rfl, rfl, ?_⟩⟩
  dsimp only
  rw [show (n : Int) - ((ones n - 1 : Nat) : Int) - 1 = ((n - ones n : Nat) : Int) by omega]
  exact q H1 s1
def spAppend : Sp := fun vs H Q _ => ∃ (n m : Nat), vs = [.int n, .int m] ∧ 1 ≤ n ∧ n + m ≤ 10 ^ 30 ∧ ∀ (H' : Hp), Same H H' → Q (.int ((m : Int) - ((ones (n + m) : Nat) : Int) + ((ones n : Nat) : Int))) H'
theorem ok_append_sums {f g1 g2 g3 : Addr} {fd d1 d2 d3 : FuncData} {t : Tok} (F : Fun K "append_sums" "append_sums" sAppendSums f fd) (GCheckSize : FnOk P w K mg base CX0 3 g1 d1 ["size"] spCheckSize) (ACheckSize : At K mg "check_size" g1 d1 ["size"])
    (GCheckNumberBetween : FnOk P w K mg base CX0 3 g2 d2 ["number", "least", "most"] spNumberBetween) (ACheckNumberBetween : At K mg "check_number_between" g2 d2 ["number", "least", "most"])
    (GMadeSums : FnOk P w K mg base CX0 7 g3 d3 ["size"] spMade) (AMadeSums : At K mg "_made_sums" g3 d3 ["size"]) (g_MOST_ENTRIES : mg "MOST_ENTRIES" = some (.int 1000000000000000000000000000000 t)) : FnOk P w K mg base CX0 8 f fd ["size", "number"] spAppend := by
  refine F.ok scAppendSums (fun vs H Q E h => ?_) (fun cdv A outer s H vs Q E hr h => ?_)
  · obtain ⟨_, _, rfl, _⟩ := h
    rfl
  obtain ⟨n, m, rfl, n1, n30, q⟩ := h
  refine ⟨_, (pss_cons (ps_expr (pe_call GCheckSize (hr.mono (by decide)) rfl ACheckSize.m ACheckSize.kp ACheckSize.b .nil pass0 (pa_cons (pv 0) pa_nil)))
    (pss_cons (ps_expr (pe_call GCheckNumberBetween (hr.mono (by decide)) rfl ACheckNumberBetween.m ACheckNumberBetween.kp ACheckNumberBetween.b .nil pass0 (pa_cons (pv 1) (pa_cons pe_int (pa_cons (pe_op op_sub (pe_glob (v := .int 1000000000000000000000000000000) rfl g_MOST_ENTRIES ⟨_, rfl⟩) (pv 0)) pa_nil)))))
    (pss_one (ps_ret (pe_op op_sub (pe_call GMadeSums (hr.mono (by decide)) rfl AMadeSums.m AMadeSums.kp AMadeSums.b .nil pass0 (pa_cons (pe_op op_add (pv 0) (pv 1)) pa_nil)) (pe_call GMadeSums (hr.mono (by decide)) rfl AMadeSums.m AMadeSums.kp AMadeSums.b .nil pass0 (pa_cons (pv 0) pa_nil))))))), ?_⟩
  refine ⟨_, rfl, _, rfl, by omega, by omega, ?_⟩
  refine ⟨_, rfl, _, rfl, _, _, rfl, rfl, _, _, _, rfl, by omega, by omega, ?_⟩
  have o1 := ones_le_self (n + m)
  have o2 := ones_le_self n
  refine ⟨_, rfl, _, rfl, _, _, rfl, rfl, n + m, rfl, by omega, by omega, fun H1 s1 => ⟨_, rfl, n, rfl, n1, by omega, fun H2 s2 => ⟨_, _, rfl, rfl, ?_⟩⟩⟩
  dsimp only
  rw [show ((n + m - ones (n + m) : Nat) : Int) - ((n - ones n : Nat) : Int) = (m : Int) - ((ones (n + m) : Nat) : Int) + ((ones n : Nat) : Int) by omega]
  exact q H2 (s1.trans s2)
end
end LT

namespace LT
open PySem PySem.Spec PyProof.Rows L2
section
variable {P : Program} {w : World} {K : PySem.W.Frag} {mg : Str → Option Value} {base : Heap}
def spNumberFrom : Sp := fun vs H Q _ => ∃ n l : Int, vs = [.int n, .int l] ∧ l ≤ n ∧ Q .non H
theorem ok_check_number_from {f g : Addr} {fd gd : FuncData} (F : Fun K "check_number_from" "check_number_from" sCheckNumberFrom f fd) (GIsWhole : FnOk P w K mg base CX0 1 g gd ["value"] spWhole) (AIsWhole : At K mg "is_whole" g gd ["value"]) : FnOk P w K mg base CX0 2 f fd ["number", "least"] spNumberFrom := by
  refine F.ok scCheckNumberFrom (fun vs H Q E h => ?_) (fun cdv A outer s H vs Q E hr h => ?_)
  · obtain ⟨_, _, rfl, _⟩ := h
    rfl
  obtain ⟨n, l, rfl, h1, q⟩ := h
  refine ⟨_, (pss_one (ps_if (PW.pt (pw_or (pt_not (pt_val (pe_call GIsWhole (hr.mono (by decide)) rfl AIsWhole.m AIsWhole.kp AIsWhole.b .nil pass0 (pa_cons (pv 0) pa_nil)))) (pw_or1 (pt_cmpR op_lt (pv 0) (pv 1) (nomark _)))))
    (pss_one ps_never)
    pss_nil)), ?_⟩
  refine ⟨_, rfl, n, rfl, true, rfl, _, rfl, _, rfl, _, _, rfl, rfl, false, congrArg V.bl (decide_eq_false (by omega)), ?_⟩
  exact q
end
end LT

namespace LT
open PySem PySem.Spec PyProof.Rows L2
/-- the sum of root_sums of n + s, n + 2 s, .., so many -/
def rs (n s m : Nat) : Nat := sumR m (fun i => ones (n + s + i * s) - 1)
section
variable {P : Program} {w : World} {K : PySem.W.Frag} {mg : Str → Option Value} {base : Heap}
def spSteps : Sp := fun vs H Q _ => ∃ (n s m : Nat), vs = [.int n, .int s, .int m] ∧ 1 ≤ n ∧ 1 ≤ s ∧ s < 2 ^ 101 ∧ n + s * m ≤ 10 ^ 30 ∧ Q (.int ((rs n s m : Nat) : Int)) H
theorem ok_roots_by_steps {f g1 g2 g3 g4 : Addr} {fd d1 d2 d3 d4 : FuncData} {t : Tok} (F : Fun K "roots_by_steps" "roots_by_steps" sRootsBySteps f fd) (GCheckSize : FnOk P w K mg base CX0 3 g1 d1 ["size"] spCheckSize) (ACheckSize : At K mg "check_size" g1 d1 ["size"])
    (GCheckNumberFrom : FnOk P w K mg base CX0 2 g2 d2 ["number", "least"] spNumberFrom) (ACheckNumberFrom : At K mg "check_number_from" g2 d2 ["number", "least"])
    (GCheckNumberBetween : FnOk P w K mg base CX0 3 g3 d3 ["number", "least", "most"] spNumberBetween) (ACheckNumberBetween : At K mg "check_number_between" g3 d3 ["number", "least", "most"])
    (GRootsAlong : FnOk P w K mg base CX0 2 g4 d4 ["first", "step", "number"] spAlong) (ARootsAlong : At K mg "_roots_along" g4 d4 ["first", "step", "number"]) (g_MOST_ENTRIES : mg "MOST_ENTRIES" = some (.int 1000000000000000000000000000000 t)) : FnOk P w K mg base CX0 4 f fd ["size", "step", "number"] spSteps := by
  refine F.ok scRootsBySteps (fun vs H Q E h => ?_) (fun cdv A outer s H vs Q E hr h => ?_)
  · obtain ⟨_, _, _, rfl, _⟩ := h
    rfl
  obtain ⟨n, s, m, rfl, n1, s1, s101, h30, q⟩ := h
  refine ⟨_, (pss_cons (ps_expr (pe_call GCheckSize (hr.mono (by decide)) rfl ACheckSize.m ACheckSize.kp ACheckSize.b .nil pass0 (pa_cons (pv 0) pa_nil)))
    (pss_cons (ps_expr (pe_call GCheckNumberFrom (hr.mono (by decide)) rfl ACheckNumberFrom.m ACheckNumberFrom.kp ACheckNumberFrom.b .nil pass0 (pa_cons (pv 1) (pa_cons pe_int pa_nil))))
    (pss_cons (ps_expr (pe_call GCheckNumberBetween (hr.mono (by decide)) rfl ACheckNumberBetween.m ACheckNumberBetween.kp ACheckNumberBetween.b .nil pass0 (pa_cons (pv 2) (pa_cons pe_int (pa_cons (pe_op op_fdivW (pe_op op_sub (pe_glob (v := .int 1000000000000000000000000000000) rfl g_MOST_ENTRIES ⟨_, rfl⟩) (pv 0)) (pv 1)) pa_nil)))))
    (pss_one (ps_ret (pe_call GRootsAlong (hr.mono (by decide)) rfl ARootsAlong.m ARootsAlong.kp ARootsAlong.b .nil pass0 (pa_cons (pe_op op_add (pv 0) (pv 1)) (pa_cons (pv 1) (pa_cons (pv 2) pa_nil))))))))), ?_⟩
  have n30 : n ≤ 10 ^ 30 := by
    have := Nat.zero_le (s * m)
    omega
  have mm : m ≤ s * m := Nat.le_mul_of_pos_left m s1
  have ed : ((1000000000000000000000000000000 : Int) - (n : Int)) / (s : Int) = (((10 ^ 30 - n) / s : Nat) : Int) := by
    rw [show (1000000000000000000000000000000 : Int) - (n : Int) = ((10 ^ 30 - n : Nat) : Int) by omega]
    exact ediv_cast _ _
  have md : m ≤ (10 ^ 30 - n) / s := (Nat.le_div_iff_mul_le s1).mpr (by rw [Nat.mul_comm]; omega)
  refine ⟨_, rfl, _, rfl, by omega, by omega, ?_⟩
  refine ⟨_, rfl, _, _, rfl, by omega, ?_⟩
  refine ⟨_, rfl, _, rfl, _, _, rfl, rfl, _, rfl, _, _, rfl, rfl, wide_div (b := 101) (show (0 : Int) < (s : Int) by omega) (by show s < 2 ^ 101; exact s101) (by decide) (by decide), _, _, _, rfl, by omega, ?_, ?_⟩
  · show (m : Int) ≤ ((1000000000000000000000000000000 : Int) - (n : Int)) / (s : Int)
    rw [ed]
    omega
  have b30 : (10 : Nat) ^ 30 < 2 ^ 101 := by decide
  refine ⟨_, rfl, _, rfl, _, _, rfl, rfl, _, rfl, _, rfl, n + s, s, m, rfl, by omega, by omega, by omega, by omega, fun i hi => ?_, q⟩
  have := Nat.mul_le_mul_right s (show i + 1 ≤ m from hi)
  rw [Nat.succ_mul, Nat.mul_comm m s] at this
  omega
end
end LT

namespace LT
open PySem PySem.Spec PyProof.Rows L2
section
variable {P : Program} {w : World} {K : PySem.W.Frag} {mg : Str → Option Value} {base : Heap}
/-! ### no steps at all, however great the step -/
def spQuot0 : Sp := fun vs H Q _ => ∃ (a b d : Int), vs = [.int a, .int b, .int 0, .int d] ∧ Q (.int 0) H
theorem ok_quotients_sum0 {f : Addr} {fd : FuncData} (F : Fun K "_quotients_sum" "_quotients_sum" sQuotientsSum f fd) : FnOk P w K mg base CX0 1 f fd ["first", "step", "number", "divisor"] spQuot0 := by
  refine F.ok scQuotientsSum (fun vs H Q E h => ?_) (fun cdv A outer s H vs Q E hr h => ?_)
  · obtain ⟨_, _, _, rfl, _⟩ := h
    rfl
  obtain ⟨a, b, d, rfl, q⟩ := h
  refine ⟨_, (pss_cons (ps_set (i := 4) scQuotientsSum.nd rfl (Or.inl rfl) pe_int)
    (pss_cons (ps_while PassesOwn.never (pt_cmpR op_gt (pv 2) pe_int (nomark _))
    (pss_cons (ps_aug (i := 4) scQuotientsSum.nd rfl (Or.inl rfl) (pe_op op_add (pe_op op_mulW (pe_op op_fdivW (pe_op op_mulW (pv 2) (pe_op op_sub (pv 2) pe_int)) pe_int) (pe_op op_fdivW (pv 1) (pv 3))) (pe_op op_mulW (pv 2) (pe_op op_fdivW (pv 0) (pv 3)))) ip_add)
    (pss_cons (ps_par (i := 1) (j := 0) (by rfl) scQuotientsSum.nd rfl rfl (by decide) rfl rfl (pa_cons (pe_op op_modN (pv 1) (pv 3)) (pa_cons (pe_op op_modN (pv 0) (pv 3)) pa_nil)) (by rfl))
    (pss_cons (ps_par (i := 2) (j := 0) (by rfl) scQuotientsSum.nd rfl rfl (by decide) rfl rfl (pa_cons (pe_op op_fdivW (pe_op op_add (pe_op op_mulW (pv 1) (pv 2)) (pv 0)) (pv 3)) (pa_cons (pe_op op_modN (pe_op op_add (pe_op op_mulW (pv 1) (pv 2)) (pv 0)) (pv 3)) pa_nil)) (by rfl))
    (pss_one (ps_par (i := 1) (j := 3) (by rfl) scQuotientsSum.nd rfl rfl (by decide) rfl rfl (pa_cons (pv 3) (pa_cons (pv 1) pa_nil)) (by rfl)))))))
    (pss_one (ps_ret (pv 4))))), ?_⟩
  refine ⟨fun mu σ H' => σ = [some (.int a), some (.int b), some (.int 0), some (.int d), some (.int 0)] ∧ H' = H ∧ mu = 0, ⟨0, rfl, rfl, rfl⟩, ?_⟩
  rintro mu σ H1 ⟨rfl, rfl, hmu⟩
  exact ⟨_, rfl, _, _, rfl, rfl, false, rfl, _, rfl, q⟩
def spAlong0 : Sp := fun vs H Q _ => ∃ (n b : Nat), vs = [.int ((n : Int) + (b : Int)), .int b, .int 0] ∧ n ≤ 10 ^ 30 ∧ b < 2 ^ 300 ∧ Q (.int 0) H
theorem ok_roots_along0 {f g1 : Addr} {fd d1 : FuncData} (F : Fun K "_roots_along" "_roots_along" sRootsAlong f fd) (GQuotientsSum : FnOk P w K mg base CX0 1 g1 d1 ["first", "step", "number", "divisor"] spQuot0) (AQuotientsSum : At K mg "_quotients_sum" g1 d1 ["first", "step", "number", "divisor"]) : FnOk P w K mg base CX0 2 f fd ["first", "step", "number"] spAlong0 := by
  refine F.ok scRootsAlong (fun vs H Q E h => ?_) (fun cdv A outer s H vs Q E hr h => ?_)
  · obtain ⟨_, _, rfl, _⟩ := h
    rfl
  obtain ⟨n, b, rfl, n30, hb, q⟩ := h
  refine ⟨_, (pss_cons (ps_set (i := 3) scRootsAlong.nd rfl (Or.inl rfl) (pe_op op_sub (pe_op op_add (pe_op op_mulW (pv 2) (pv 0)) (pe_op op_mulW (pe_op op_fdivW (pe_op op_mulW (pv 2) (pe_op op_sub (pv 2) pe_int)) pe_int) (pv 1))) (pv 2)))
    (pss_cons (ps_set (i := 4) scRootsAlong.nd rfl (Or.inl rfl) pe_int)
    (pss_cons (ps_while PassesOwn.never (pt_cmpR op_le (pv 4) (pe_op op_add (pv 0) (pe_op op_mulW (pv 1) (pe_op op_sub (pv 2) pe_int))) (nomark _))
    (pss_cons (ps_aug (i := 3) scRootsAlong.nd rfl (Or.inl rfl) (pe_call GQuotientsSum (hr.mono (by decide)) rfl AQuotientsSum.m AQuotientsSum.kp AQuotientsSum.b .nil pass0 (pa_cons (pv 0) (pa_cons (pv 1) (pa_cons (pv 2) (pa_cons (pv 4) pa_nil))))) ip_sub)
    (pss_one (ps_set (i := 4) scRootsAlong.nd rfl (Or.inl rfl) (pe_op op_mulW (pv 4) pe_int)))))
    (pss_one (ps_ret (pv 3)))))), ?_⟩
  have nb : n + b < 2 ^ 301 := by
    have : (10 : Nat) ^ 30 < 2 ^ 300 := by decide
    have : (2 : Nat) ^ 301 = 2 ^ 300 + 2 ^ 300 := by decide
    omega
  have w1 : CMulW 0 ((n : Int) + (b : Int)) := wide_mul (a := 2) (b := 301) (by decide) (by show n + b < 2 ^ 301; exact nb) (by decide) (by decide) (by decide)
  have w2 : CMulW 0 ((0 : Int) - 1) := wide_mul (a := 2) (b := 2) (by decide) (by decide) (by decide) (by decide) (by decide)
  have w3 : CMulW ((0 : Int) * ((0 : Int) - 1) / 2) (b : Int) := wide_mul (a := 2) (b := 300) (by decide) (by show b < 2 ^ 300; exact hb) (by decide) (by decide) (by decide)
  refine ⟨_, rfl, _, rfl, _, _, rfl, rfl, w1, _, rfl, _, rfl, _, _, rfl, rfl, _, _, rfl, rfl, w2, _, _, rfl, rfl, wide_div (b := 2) (by decide) (by decide) (by decide) (by decide), _, rfl, _, _, rfl, rfl, w3, _, _, rfl, rfl, _, rfl, _, _, rfl, rfl, ?_⟩
  have e0 : (0 : Int) * ((n : Int) + (b : Int)) + (0 : Int) * ((0 : Int) - 1) / 2 * (b : Int) - 0 = 0 := by
    rw [Int.zero_mul, Int.zero_mul]
    simp
  dsimp only
  rw [e0]
  have w4 : CMulW (b : Int) ((0 : Int) - 1) := wide_mul (a := 300) (b := 2) (by show b < 2 ^ 300; exact hb) (by decide) (by decide) (by decide) (by decide)
  have last : (n : Int) + (b : Int) + (b : Int) * ((0 : Int) - 1) = (n : Int) := by
    rw [show (0 : Int) - 1 = -1 by decide, Int.mul_neg, Int.mul_one]
    omega
  refine ⟨fun mu σ H' => ∃ (j : Nat), σ = [some (.int ((n : Int) + (b : Int))), some (.int (b : Int)), some (.int 0), some (.int 0), some (.int ((2 ^ (j + 1) : Nat) : Int))] ∧ H' = H ∧ j ≤ 102 ∧ mu = 102 - j,
    ⟨102, 0, rfl, rfl, by decide, rfl⟩, ?_⟩
  rintro mu σ H1 ⟨j, rfl, rfl, j102, hmu⟩
  refine ⟨_, rfl, _, rfl, _, rfl, _, rfl, _, _, rfl, rfl, _, _, rfl, rfl, w4, _, _, rfl, rfl, _, _, rfl, rfl, _, rfl, ite2 (fun c4 => ?_) (fun c4 => ?_)⟩
  · have c5 : ((2 ^ (j + 1) : Nat) : Int) ≤ (n : Int) + (b : Int) + (b : Int) * ((0 : Int) - 1) := of_decide_eq_true c4
    rw [last] at c5
    have jl : j + 1 < 102 := by
      have h2 : 2 ^ (j + 1) < 2 ^ 102 := Nat.lt_of_le_of_lt (show 2 ^ (j + 1) ≤ 10 ^ 30 by omega) (by decide)
      exact (Nat.pow_lt_pow_iff_right (by decide : 1 < 2)).mp h2
    have pjb : 2 ^ (j + 1) < 2 ^ 200 := Nat.lt_of_le_of_lt (Nat.pow_le_pow_right (n := 2) (by decide) (show j + 1 ≤ 102 by omega)) (by decide)
    have er : ((2 ^ (j + 1) : Nat) : Int) * 2 = ((2 ^ (j + 1 + 1) : Nat) : Int) := by rw [Nat.pow_succ 2 (j + 1)]; omega
    refine ⟨_, fun σ' H' h => h, _, rfl, _, rfl, _, rfl, _, rfl, _, rfl, _, _, _, rfl, _, _, rfl, rfl, _, rfl, _, _, rfl, rfl, mulW (k := 200) (l := 2) pjb (by decide) (by decide) (by decide) (by decide), ?_⟩
    dsimp only
    refine ⟨102 - (j + 1), by omega, j + 1, ?_, rfl, by omega, rfl⟩
    rw [← er]
    rfl
  · exact ⟨_, rfl, q⟩
def spSteps0 : Sp := fun vs H Q _ => ∃ (n st : Nat), vs = [.int n, .int st, .int 0] ∧ 1 ≤ n ∧ n ≤ 10 ^ 30 ∧ 1 ≤ st ∧ st < 2 ^ 300 ∧ Q (.int 0) H
theorem ok_roots_by_steps0 {f g1 g2 g3 g4 : Addr} {fd d1 d2 d3 d4 : FuncData} {t : Tok} (F : Fun K "roots_by_steps" "roots_by_steps" sRootsBySteps f fd) (GCheckSize : FnOk P w K mg base CX0 3 g1 d1 ["size"] spCheckSize) (ACheckSize : At K mg "check_size" g1 d1 ["size"])
    (GCheckNumberFrom : FnOk P w K mg base CX0 2 g2 d2 ["number", "least"] spNumberFrom) (ACheckNumberFrom : At K mg "check_number_from" g2 d2 ["number", "least"])
    (GCheckNumberBetween : FnOk P w K mg base CX0 3 g3 d3 ["number", "least", "most"] spNumberBetween) (ACheckNumberBetween : At K mg "check_number_between" g3 d3 ["number", "least", "most"])
    (GRootsAlong : FnOk P w K mg base CX0 2 g4 d4 ["first", "step", "number"] spAlong0) (ARootsAlong : At K mg "_roots_along" g4 d4 ["first", "step", "number"]) (g_MOST_ENTRIES : mg "MOST_ENTRIES" = some (.int 1000000000000000000000000000000 t)) : FnOk P w K mg base CX0 4 f fd ["size", "step", "number"] spSteps0 := by
  refine F.ok scRootsBySteps (fun vs H Q E h => ?_) (fun cdv A outer s H vs Q E hr h => ?_)
  · obtain ⟨_, _, rfl, _⟩ := h
    rfl
  obtain ⟨n, st, rfl, n1, n30, s1, s3, q⟩ := h
  refine ⟨_, (pss_cons (ps_expr (pe_call GCheckSize (hr.mono (by decide)) rfl ACheckSize.m ACheckSize.kp ACheckSize.b .nil pass0 (pa_cons (pv 0) pa_nil)))
    (pss_cons (ps_expr (pe_call GCheckNumberFrom (hr.mono (by decide)) rfl ACheckNumberFrom.m ACheckNumberFrom.kp ACheckNumberFrom.b .nil pass0 (pa_cons (pv 1) (pa_cons pe_int pa_nil))))
    (pss_cons (ps_expr (pe_call GCheckNumberBetween (hr.mono (by decide)) rfl ACheckNumberBetween.m ACheckNumberBetween.kp ACheckNumberBetween.b .nil pass0 (pa_cons (pv 2) (pa_cons pe_int (pa_cons (pe_op op_fdivW (pe_op op_sub (pe_glob (v := .int 1000000000000000000000000000000) rfl g_MOST_ENTRIES ⟨_, rfl⟩) (pv 0)) (pv 1)) pa_nil)))))
    (pss_one (ps_ret (pe_call GRootsAlong (hr.mono (by decide)) rfl ARootsAlong.m ARootsAlong.kp ARootsAlong.b .nil pass0 (pa_cons (pe_op op_add (pv 0) (pv 1)) (pa_cons (pv 1) (pa_cons (pv 2) pa_nil))))))))), ?_⟩
  have d0 : 0 ≤ (1000000000000000000000000000000 - (n : Int)) / (st : Int) := Int.ediv_nonneg (by omega) (by omega)
  refine ⟨_, rfl, _, rfl, by omega, by omega, ?_⟩
  refine ⟨_, rfl, _, _, rfl, by omega, ?_⟩
  refine ⟨_, rfl, _, rfl, _, _, rfl, rfl, _, rfl, _, _, rfl, rfl, wide_div (b := 300) (show (0 : Int) < (st : Int) by omega) (by show st < 2 ^ 300; exact s3) (by decide) (by decide), _, _, _, rfl, by omega, d0, ?_⟩
  exact ⟨_, rfl, _, rfl, _, _, rfl, rfl, _, rfl, _, rfl, n, st, rfl, n30, s3, q⟩
end
end LT

namespace LT
open PySem PySem.Spec PyProof.Rows L2
/-- a text and a truth -/
def Sb (H : Hp) (v : V) (x : Str × Bool) : Prop := ∃ p, v = .ref p ∧ H p = some (.tup [.str x.1, .bl x.2])
theorem Sb.same {H H' : Hp} {v : V} {x : Str × Bool} (h : Sb H v x) (s : Same H H') : Sb H' v x := by
  obtain ⟨p, e, q⟩ := h
  exact ⟨p, e, s _ _ q⟩
theorem Sb.upd {H : Hp} {v : V} {x : Str × Bool} {s : Addr} {xs : List V} {o : HO} (h : Sb H v x) (hs : H s = some (.lst xs)) : Sb (upd H s o) v x := by
  obtain ⟨p, e, q⟩ := h
  exact ⟨p, e, by rw [upd_ne (ne_of q hs (by intro z; cases z))]; exact q⟩
structure GF (mg : Str → Option Value) (x : Str) (C : Addr) : Prop where
  g : mg x = some (.ref C)
/-- an instance of the class at C is asked for each of the classes -/
def Kit (K : PySem.W.Frag) (C : Addr) : List Addr → List Bool → Prop
  | [], [] => True
  | D :: Ds, b :: bs => PySem.W.kitOne K (.ref C) (.ref D) = some b ∧ Kit K C Ds bs
  | _, _ => False
def clsNames : List Str := ["spans", "nodes", "bounds", "text", "over", "size", "entry", "node", "span", "number", "height", "budget", "operation", "nothing", "command"]
section
variable {P : Program} {w : World} {K : PySem.W.Frag} {mg : Str → Option Value} {base : Heap} {CInvalidSpans CInvalidNodes CInvalidBounds CInvalidText COverBudget CInvalidSize CInvalidEntry CInvalidNode CInvalidSpan CInvalidNumber CInvalidHeight CInvalidBudget CInvalidOperation CNothing CInvalidCommand : Addr}
def spKinds (K : PySem.W.Frag) (Cs : List Addr) : Sp := fun vs H Q _ => ∃ (a C : Addr) (bs : List Bool), vs = [.ref a] ∧ H a = some (ExK (.ref C) none a) ∧ ExcC K C ∧ Kit K C Cs bs ∧ ∀ (H' : Hp) (p : Addr) (xs : List V), Same H H' → H p = none → H' p = some (.lst xs) → All2 (Sb H') xs (clsNames.zip bs) → Q (.ref p) H'
theorem ok_law_kinds {f : Addr} {fd : FuncData} (F : Fun K "_law_kinds" "_law_kinds" sLawKinds f fd) (XInvalidSpans : GF mg "InvalidSpans" CInvalidSpans) (XInvalidNodes : GF mg "InvalidNodes" CInvalidNodes) (XInvalidBounds : GF mg "InvalidBounds" CInvalidBounds) (XInvalidText : GF mg "InvalidText" CInvalidText) (XOverBudget : GF mg "OverBudget" COverBudget) (XInvalidSize : GF mg "InvalidSize" CInvalidSize) (XInvalidEntry : GF mg "InvalidEntry" CInvalidEntry) (XInvalidNode : GF mg "InvalidNode" CInvalidNode) (XInvalidSpan : GF mg "InvalidSpan" CInvalidSpan) (XInvalidNumber : GF mg "InvalidNumber" CInvalidNumber) (XInvalidHeight : GF mg "InvalidHeight" CInvalidHeight) (XInvalidBudget : GF mg "InvalidBudget" CInvalidBudget) (XInvalidOperation : GF mg "InvalidOperation" CInvalidOperation) (XNothing : GF mg "Nothing" CNothing) (XInvalidCommand : GF mg "InvalidCommand" CInvalidCommand) (z_isinstance : mg "isinstance" = none) : FnOk P w K mg base CX0 1 f fd ["e"] (spKinds K [CInvalidSpans, CInvalidNodes, CInvalidBounds, CInvalidText, COverBudget, CInvalidSize, CInvalidEntry, CInvalidNode, CInvalidSpan, CInvalidNumber, CInvalidHeight, CInvalidBudget, CInvalidOperation, CNothing, CInvalidCommand]) := by
  refine F.ok scLawKinds (fun vs H Q E h => ?_) (fun cdv A outer s H vs Q E hr h => ?_)
  · obtain ⟨_, _, _, rfl, _⟩ := h
    rfl
  obtain ⟨a, C, bs, rfl, ha, hE, hk, q⟩ := h
  obtain ⟨b0, b1, b2, b3, b4, b5, b6, b7, b8, b9, b10, b11, b12, b13, b14, rfl⟩ : ∃ b0 b1 b2 b3 b4 b5 b6 b7 b8 b9 b10 b11 b12 b13 b14, bs = [b0, b1, b2, b3, b4, b5, b6, b7, b8, b9, b10, b11, b12, b13, b14] := by
    match bs, hk with
    | [b0, b1, b2, b3, b4, b5, b6, b7, b8, b9, b10, b11, b12, b13, b14], _ => exact ⟨_, _, _, _, _, _, _, _, _, _, _, _, _, _, _, rfl⟩
  obtain ⟨k0, k1, k2, k3, k4, k5, k6, k7, k8, k9, k10, k11, k12, k13, k14, _⟩ := hk
  have two : 2 ≤ sizeLine := by decide
  have one1 : 1 ≤ sizeLine := by decide
  refine' ⟨_, (pss_cons (ps_set (i := 1) scLawKinds.nd rfl (Or.inl rfl) (pe_lst (pa_cons (pe_tup (pa_cons pe_str (pa_cons (pe_callB call_isK (by rfl) z_isinstance (by decide +kernel) (pa_cons (pv 0) (pa_cons (pe_glob (v := .ref CInvalidSpans) rfl XInvalidSpans.g rfl) pa_nil))) pa_nil))) (pa_cons (pe_tup (pa_cons pe_str (pa_cons (pe_callB call_isK (by rfl) z_isinstance (by decide +kernel) (pa_cons (pv 0) (pa_cons (pe_glob (v := .ref CInvalidNodes) rfl XInvalidNodes.g rfl) pa_nil))) pa_nil))) pa_nil))))
    (pss_cons (ps_set (i := 1) scLawKinds.nd rfl (Or.inl rfl) (pe_op op_cat (pv 1) (pe_lst (pa_cons (pe_tup (pa_cons pe_str (pa_cons (pe_callB call_isK (by rfl) z_isinstance (by decide +kernel) (pa_cons (pv 0) (pa_cons (pe_glob (v := .ref CInvalidBounds) rfl XInvalidBounds.g rfl) pa_nil))) pa_nil))) (pa_cons (pe_tup (pa_cons pe_str (pa_cons (pe_callB call_isK (by rfl) z_isinstance (by decide +kernel) (pa_cons (pv 0) (pa_cons (pe_glob (v := .ref CInvalidText) rfl XInvalidText.g rfl) pa_nil))) pa_nil))) pa_nil)))))
    (pss_cons (ps_set (i := 1) scLawKinds.nd rfl (Or.inl rfl) (pe_op op_cat (pv 1) (pe_lst (pa_cons (pe_tup (pa_cons pe_str (pa_cons (pe_callB call_isK (by rfl) z_isinstance (by decide +kernel) (pa_cons (pv 0) (pa_cons (pe_glob (v := .ref COverBudget) rfl XOverBudget.g rfl) pa_nil))) pa_nil))) (pa_cons (pe_tup (pa_cons pe_str (pa_cons (pe_callB call_isK (by rfl) z_isinstance (by decide +kernel) (pa_cons (pv 0) (pa_cons (pe_glob (v := .ref CInvalidSize) rfl XInvalidSize.g rfl) pa_nil))) pa_nil))) pa_nil)))))
    (pss_cons (ps_set (i := 1) scLawKinds.nd rfl (Or.inl rfl) (pe_op op_cat (pv 1) (pe_lst (pa_cons (pe_tup (pa_cons pe_str (pa_cons (pe_callB call_isK (by rfl) z_isinstance (by decide +kernel) (pa_cons (pv 0) (pa_cons (pe_glob (v := .ref CInvalidEntry) rfl XInvalidEntry.g rfl) pa_nil))) pa_nil))) (pa_cons (pe_tup (pa_cons pe_str (pa_cons (pe_callB call_isK (by rfl) z_isinstance (by decide +kernel) (pa_cons (pv 0) (pa_cons (pe_glob (v := .ref CInvalidNode) rfl XInvalidNode.g rfl) pa_nil))) pa_nil))) pa_nil)))))
    (pss_cons (ps_set (i := 1) scLawKinds.nd rfl (Or.inl rfl) (pe_op op_cat (pv 1) (pe_lst (pa_cons (pe_tup (pa_cons pe_str (pa_cons (pe_callB call_isK (by rfl) z_isinstance (by decide +kernel) (pa_cons (pv 0) (pa_cons (pe_glob (v := .ref CInvalidSpan) rfl XInvalidSpan.g rfl) pa_nil))) pa_nil))) (pa_cons (pe_tup (pa_cons pe_str (pa_cons (pe_callB call_isK (by rfl) z_isinstance (by decide +kernel) (pa_cons (pv 0) (pa_cons (pe_glob (v := .ref CInvalidNumber) rfl XInvalidNumber.g rfl) pa_nil))) pa_nil))) pa_nil)))))
    (pss_cons (ps_set (i := 1) scLawKinds.nd rfl (Or.inl rfl) (pe_op op_cat (pv 1) (pe_lst (pa_cons (pe_tup (pa_cons pe_str (pa_cons (pe_callB call_isK (by rfl) z_isinstance (by decide +kernel) (pa_cons (pv 0) (pa_cons (pe_glob (v := .ref CInvalidHeight) rfl XInvalidHeight.g rfl) pa_nil))) pa_nil))) (pa_cons (pe_tup (pa_cons pe_str (pa_cons (pe_callB call_isK (by rfl) z_isinstance (by decide +kernel) (pa_cons (pv 0) (pa_cons (pe_glob (v := .ref CInvalidBudget) rfl XInvalidBudget.g rfl) pa_nil))) pa_nil))) pa_nil)))))
    (pss_cons (ps_set (i := 1) scLawKinds.nd rfl (Or.inl rfl) (pe_op op_cat (pv 1) (pe_lst (pa_cons (pe_tup (pa_cons pe_str (pa_cons (pe_callB call_isK (by rfl) z_isinstance (by decide +kernel) (pa_cons (pv 0) (pa_cons (pe_glob (v := .ref CInvalidOperation) rfl XInvalidOperation.g rfl) pa_nil))) pa_nil))) (pa_cons (pe_tup (pa_cons pe_str (pa_cons (pe_callB call_isK (by rfl) z_isinstance (by decide +kernel) (pa_cons (pv 0) (pa_cons (pe_glob (v := .ref CNothing) rfl XNothing.g rfl) pa_nil))) pa_nil))) pa_nil)))))
    (pss_one (ps_ret (pe_op op_cat (pv 1) (pe_lst (pa_cons (pe_tup (pa_cons pe_str (pa_cons (pe_callB call_isK (by rfl) z_isinstance (by decide +kernel) (pa_cons (pv 0) (pa_cons (pe_glob (v := .ref CInvalidCommand) rfl XInvalidCommand.g rfl) pa_nil))) pa_nil))) pa_nil)))))))))))), ?_⟩
  refine ⟨_, rfl, a, C, _, _, b0, rfl, ha, hE, (fun u r => r), k0, two, fun t0 nt0 => ⟨_, rfl, a, C, _, _, b1, rfl, (same_upd nt0 _ _ ha), hE, (fun u r => r), k1, two, fun t1 nt1 => ⟨two, fun l0 nl0 => ?_⟩⟩⟩
  have st0 := same_upd (H := H) (o := .tup [.str "spans", .bl b0]) nt0
  have sb0 : Sb (upd H t0 (.tup [.str "spans", .bl b0])) (.ref t0) ("spans", b0) := ⟨t0, rfl, upd_same⟩
  have st1 := same_upd (H := (upd H t0 (.tup [.str "spans", .bl b0]))) (o := .tup [.str "nodes", .bl b1]) nt1
  have sb1 : Sb (upd (upd H t0 (.tup [.str "spans", .bl b0])) t1 (.tup [.str "nodes", .bl b1])) (.ref t1) ("nodes", b1) := ⟨t1, rfl, upd_same⟩
  have sl0 := same_upd (H := (upd (upd H t0 (.tup [.str "spans", .bl b0])) t1 (.tup [.str "nodes", .bl b1]))) (o := .lst [.ref t0, .ref t1]) nl0
  have sg0 := (st0.trans st1).trans sl0
  have hv0 : All2 (Sb (upd (upd (upd H t0 (.tup [.str "spans", .bl b0])) t1 (.tup [.str "nodes", .bl b1])) l0 (.lst [.ref t0, .ref t1]))) [.ref t0, .ref t1] [(("spans" : Str), b0), (("nodes" : Str), b1)] := (.cons ((sb0.same st1).same sl0) (.cons (sb1.same sl0) .nil))
  have hl0 : (upd (upd (upd H t0 (.tup [.str "spans", .bl b0])) t1 (.tup [.str "nodes", .bl b1])) l0 (.lst [.ref t0, .ref t1])) l0 = some (.lst [.ref t0, .ref t1]) := upd_same
  have ha1 := sg0 _ _ ha
  have sm1 : Same H (upd (upd (upd H t0 (.tup [.str "spans", .bl b0])) t1 (.tup [.str "nodes", .bl b1])) l0 (.lst [.ref t0, .ref t1])) := sg0
  have hx1 := hv0
  have hs1 := hl0
  generalize (upd (upd (upd H t0 (.tup [.str "spans", .bl b0])) t1 (.tup [.str "nodes", .bl b1])) l0 (.lst [.ref t0, .ref t1])) = J1 at ha1 sm1 hx1 hs1
  have ex1 : ∃ (S : Addr) (X : List V) (L : List (Str × Bool)), L = [(("spans" : Str), b0), (("nodes" : Str), b1)] ∧ J1 S = some (.lst X) ∧ All2 (Sb J1) X L ∧ S = l0 := ⟨l0, _, _, rfl, hs1, hx1, rfl⟩
  clear hs1 hx1
  obtain ⟨S1, X1, L1, eL1, hs1, hx1, ln1⟩ := ex1
  subst ln1
  refine ⟨_, rfl, _, rfl, a, C, _, _, b2, rfl, ha1, hE, (fun u r => r), k2, two, fun t2 nt2 => ⟨_, rfl, a, C, _, _, b3, rfl, (same_upd nt2 _ _ ha1), hE, (fun u r => r), k3, two, fun t3 nt3 => ⟨two, fun l1 nl1 => ?_⟩⟩⟩
  have st2 := same_upd (H := J1) (o := .tup [.str "bounds", .bl b2]) nt2
  have sb2 : Sb (upd J1 t2 (.tup [.str "bounds", .bl b2])) (.ref t2) ("bounds", b2) := ⟨t2, rfl, upd_same⟩
  have st3 := same_upd (H := (upd J1 t2 (.tup [.str "bounds", .bl b2]))) (o := .tup [.str "text", .bl b3]) nt3
  have sb3 : Sb (upd (upd J1 t2 (.tup [.str "bounds", .bl b2])) t3 (.tup [.str "text", .bl b3])) (.ref t3) ("text", b3) := ⟨t3, rfl, upd_same⟩
  have sl1 := same_upd (H := (upd (upd J1 t2 (.tup [.str "bounds", .bl b2])) t3 (.tup [.str "text", .bl b3]))) (o := .lst [.ref t2, .ref t3]) nl1
  have sg1 := (st2.trans st3).trans sl1
  have hv1 : All2 (Sb (upd (upd (upd J1 t2 (.tup [.str "bounds", .bl b2])) t3 (.tup [.str "text", .bl b3])) l1 (.lst [.ref t2, .ref t3]))) [.ref t2, .ref t3] [(("bounds" : Str), b2), (("text" : Str), b3)] := (.cons ((sb2.same st3).same sl1) (.cons (sb3.same sl1) .nil))
  have hl1 : (upd (upd (upd J1 t2 (.tup [.str "bounds", .bl b2])) t3 (.tup [.str "text", .bl b3])) l1 (.lst [.ref t2, .ref t3])) l1 = some (.lst [.ref t2, .ref t3]) := upd_same
  have hS1 := sg1 _ _ hs1
  have hX1 := hx1.mono (fun v x (k : Sb J1 v x) => k.same sg1)
  have xl1 := hx1.len
  refine ⟨S1, l1, _, _, rfl, rfl, hS1, hl1, szle (by rw [xl1, eL1]; simp), fun r1 nr1 => ?_⟩
  have sr1 := same_upd (H := (upd (upd (upd J1 t2 (.tup [.str "bounds", .bl b2])) t3 (.tup [.str "text", .bl b3])) l1 (.lst [.ref t2, .ref t3]))) (o := .lst (X1 ++ [.ref t2, .ref t3])) nr1
  have ha2 := sr1 _ _ (sg1 _ _ ha1)
  have sm2 := sm1.trans (sg1.trans sr1)
  have hx2 := (hX1.app hv1).mono (fun v x (k : Sb (upd (upd (upd J1 t2 (.tup [.str "bounds", .bl b2])) t3 (.tup [.str "text", .bl b3])) l1 (.lst [.ref t2, .ref t3])) v x) => k.same sr1)
  have hs2 : (upd (upd (upd (upd J1 t2 (.tup [.str "bounds", .bl b2])) t3 (.tup [.str "text", .bl b3])) l1 (.lst [.ref t2, .ref t3])) r1 (.lst (X1 ++ [.ref t2, .ref t3]))) r1 = some (.lst (X1 ++ [.ref t2, .ref t3])) := upd_same
  generalize (upd (upd (upd (upd J1 t2 (.tup [.str "bounds", .bl b2])) t3 (.tup [.str "text", .bl b3])) l1 (.lst [.ref t2, .ref t3])) r1 (.lst (X1 ++ [.ref t2, .ref t3]))) = J2 at ha2 sm2 hx2 hs2
  have ex2 : ∃ (S : Addr) (X : List V) (L : List (Str × Bool)), L = L1 ++ [(("bounds" : Str), b2), (("text" : Str), b3)] ∧ J2 S = some (.lst X) ∧ All2 (Sb J2) X L ∧ S = r1 := ⟨r1, _, _, rfl, hs2, hx2, rfl⟩
  clear hs2 hx2
  obtain ⟨S2, X2, L2, eL2, hs2, hx2, ln2⟩ := ex2
  subst ln2
  rw [eL1] at eL2
  refine ⟨_, rfl, _, rfl, a, C, _, _, b4, rfl, ha2, hE, (fun u r => r), k4, two, fun t4 nt4 => ⟨_, rfl, a, C, _, _, b5, rfl, (same_upd nt4 _ _ ha2), hE, (fun u r => r), k5, two, fun t5 nt5 => ⟨two, fun l2 nl2 => ?_⟩⟩⟩
  have st4 := same_upd (H := J2) (o := .tup [.str "over", .bl b4]) nt4
  have sb4 : Sb (upd J2 t4 (.tup [.str "over", .bl b4])) (.ref t4) ("over", b4) := ⟨t4, rfl, upd_same⟩
  have st5 := same_upd (H := (upd J2 t4 (.tup [.str "over", .bl b4]))) (o := .tup [.str "size", .bl b5]) nt5
  have sb5 : Sb (upd (upd J2 t4 (.tup [.str "over", .bl b4])) t5 (.tup [.str "size", .bl b5])) (.ref t5) ("size", b5) := ⟨t5, rfl, upd_same⟩
  have sl2 := same_upd (H := (upd (upd J2 t4 (.tup [.str "over", .bl b4])) t5 (.tup [.str "size", .bl b5]))) (o := .lst [.ref t4, .ref t5]) nl2
  have sg2 := (st4.trans st5).trans sl2
  have hv2 : All2 (Sb (upd (upd (upd J2 t4 (.tup [.str "over", .bl b4])) t5 (.tup [.str "size", .bl b5])) l2 (.lst [.ref t4, .ref t5]))) [.ref t4, .ref t5] [(("over" : Str), b4), (("size" : Str), b5)] := (.cons ((sb4.same st5).same sl2) (.cons (sb5.same sl2) .nil))
  have hl2 : (upd (upd (upd J2 t4 (.tup [.str "over", .bl b4])) t5 (.tup [.str "size", .bl b5])) l2 (.lst [.ref t4, .ref t5])) l2 = some (.lst [.ref t4, .ref t5]) := upd_same
  have hS2 := sg2 _ _ hs2
  have hX2 := hx2.mono (fun v x (k : Sb J2 v x) => k.same sg2)
  have xl2 := hx2.len
  refine ⟨S2, l2, _, _, rfl, rfl, hS2, hl2, szle (by rw [xl2, eL2]; simp), fun r2 nr2 => ?_⟩
  have sr2 := same_upd (H := (upd (upd (upd J2 t4 (.tup [.str "over", .bl b4])) t5 (.tup [.str "size", .bl b5])) l2 (.lst [.ref t4, .ref t5]))) (o := .lst (X2 ++ [.ref t4, .ref t5])) nr2
  have ha3 := sr2 _ _ (sg2 _ _ ha2)
  have sm3 := sm2.trans (sg2.trans sr2)
  have hx3 := (hX2.app hv2).mono (fun v x (k : Sb (upd (upd (upd J2 t4 (.tup [.str "over", .bl b4])) t5 (.tup [.str "size", .bl b5])) l2 (.lst [.ref t4, .ref t5])) v x) => k.same sr2)
  have hs3 : (upd (upd (upd (upd J2 t4 (.tup [.str "over", .bl b4])) t5 (.tup [.str "size", .bl b5])) l2 (.lst [.ref t4, .ref t5])) r2 (.lst (X2 ++ [.ref t4, .ref t5]))) r2 = some (.lst (X2 ++ [.ref t4, .ref t5])) := upd_same
  generalize (upd (upd (upd (upd J2 t4 (.tup [.str "over", .bl b4])) t5 (.tup [.str "size", .bl b5])) l2 (.lst [.ref t4, .ref t5])) r2 (.lst (X2 ++ [.ref t4, .ref t5]))) = J3 at ha3 sm3 hx3 hs3
  have ex3 : ∃ (S : Addr) (X : List V) (L : List (Str × Bool)), L = L2 ++ [(("over" : Str), b4), (("size" : Str), b5)] ∧ J3 S = some (.lst X) ∧ All2 (Sb J3) X L ∧ S = r2 := ⟨r2, _, _, rfl, hs3, hx3, rfl⟩
  clear hs3 hx3
  obtain ⟨S3, X3, L3, eL3, hs3, hx3, ln3⟩ := ex3
  subst ln3
  rw [eL2] at eL3
  refine ⟨_, rfl, _, rfl, a, C, _, _, b6, rfl, ha3, hE, (fun u r => r), k6, two, fun t6 nt6 => ⟨_, rfl, a, C, _, _, b7, rfl, (same_upd nt6 _ _ ha3), hE, (fun u r => r), k7, two, fun t7 nt7 => ⟨two, fun l3 nl3 => ?_⟩⟩⟩
  have st6 := same_upd (H := J3) (o := .tup [.str "entry", .bl b6]) nt6
  have sb6 : Sb (upd J3 t6 (.tup [.str "entry", .bl b6])) (.ref t6) ("entry", b6) := ⟨t6, rfl, upd_same⟩
  have st7 := same_upd (H := (upd J3 t6 (.tup [.str "entry", .bl b6]))) (o := .tup [.str "node", .bl b7]) nt7
  have sb7 : Sb (upd (upd J3 t6 (.tup [.str "entry", .bl b6])) t7 (.tup [.str "node", .bl b7])) (.ref t7) ("node", b7) := ⟨t7, rfl, upd_same⟩
  have sl3 := same_upd (H := (upd (upd J3 t6 (.tup [.str "entry", .bl b6])) t7 (.tup [.str "node", .bl b7]))) (o := .lst [.ref t6, .ref t7]) nl3
  have sg3 := (st6.trans st7).trans sl3
  have hv3 : All2 (Sb (upd (upd (upd J3 t6 (.tup [.str "entry", .bl b6])) t7 (.tup [.str "node", .bl b7])) l3 (.lst [.ref t6, .ref t7]))) [.ref t6, .ref t7] [(("entry" : Str), b6), (("node" : Str), b7)] := (.cons ((sb6.same st7).same sl3) (.cons (sb7.same sl3) .nil))
  have hl3 : (upd (upd (upd J3 t6 (.tup [.str "entry", .bl b6])) t7 (.tup [.str "node", .bl b7])) l3 (.lst [.ref t6, .ref t7])) l3 = some (.lst [.ref t6, .ref t7]) := upd_same
  have hS3 := sg3 _ _ hs3
  have hX3 := hx3.mono (fun v x (k : Sb J3 v x) => k.same sg3)
  have xl3 := hx3.len
  refine ⟨S3, l3, _, _, rfl, rfl, hS3, hl3, szle (by rw [xl3, eL3]; simp), fun r3 nr3 => ?_⟩
  have sr3 := same_upd (H := (upd (upd (upd J3 t6 (.tup [.str "entry", .bl b6])) t7 (.tup [.str "node", .bl b7])) l3 (.lst [.ref t6, .ref t7]))) (o := .lst (X3 ++ [.ref t6, .ref t7])) nr3
  have ha4 := sr3 _ _ (sg3 _ _ ha3)
  have sm4 := sm3.trans (sg3.trans sr3)
  have hx4 := (hX3.app hv3).mono (fun v x (k : Sb (upd (upd (upd J3 t6 (.tup [.str "entry", .bl b6])) t7 (.tup [.str "node", .bl b7])) l3 (.lst [.ref t6, .ref t7])) v x) => k.same sr3)
  have hs4 : (upd (upd (upd (upd J3 t6 (.tup [.str "entry", .bl b6])) t7 (.tup [.str "node", .bl b7])) l3 (.lst [.ref t6, .ref t7])) r3 (.lst (X3 ++ [.ref t6, .ref t7]))) r3 = some (.lst (X3 ++ [.ref t6, .ref t7])) := upd_same
  generalize (upd (upd (upd (upd J3 t6 (.tup [.str "entry", .bl b6])) t7 (.tup [.str "node", .bl b7])) l3 (.lst [.ref t6, .ref t7])) r3 (.lst (X3 ++ [.ref t6, .ref t7]))) = J4 at ha4 sm4 hx4 hs4
  have ex4 : ∃ (S : Addr) (X : List V) (L : List (Str × Bool)), L = L3 ++ [(("entry" : Str), b6), (("node" : Str), b7)] ∧ J4 S = some (.lst X) ∧ All2 (Sb J4) X L ∧ S = r3 := ⟨r3, _, _, rfl, hs4, hx4, rfl⟩
  clear hs4 hx4
  obtain ⟨S4, X4, L4, eL4, hs4, hx4, ln4⟩ := ex4
  subst ln4
  rw [eL3] at eL4
  refine ⟨_, rfl, _, rfl, a, C, _, _, b8, rfl, ha4, hE, (fun u r => r), k8, two, fun t8 nt8 => ⟨_, rfl, a, C, _, _, b9, rfl, (same_upd nt8 _ _ ha4), hE, (fun u r => r), k9, two, fun t9 nt9 => ⟨two, fun l4 nl4 => ?_⟩⟩⟩
  have st8 := same_upd (H := J4) (o := .tup [.str "span", .bl b8]) nt8
  have sb8 : Sb (upd J4 t8 (.tup [.str "span", .bl b8])) (.ref t8) ("span", b8) := ⟨t8, rfl, upd_same⟩
  have st9 := same_upd (H := (upd J4 t8 (.tup [.str "span", .bl b8]))) (o := .tup [.str "number", .bl b9]) nt9
  have sb9 : Sb (upd (upd J4 t8 (.tup [.str "span", .bl b8])) t9 (.tup [.str "number", .bl b9])) (.ref t9) ("number", b9) := ⟨t9, rfl, upd_same⟩
  have sl4 := same_upd (H := (upd (upd J4 t8 (.tup [.str "span", .bl b8])) t9 (.tup [.str "number", .bl b9]))) (o := .lst [.ref t8, .ref t9]) nl4
  have sg4 := (st8.trans st9).trans sl4
  have hv4 : All2 (Sb (upd (upd (upd J4 t8 (.tup [.str "span", .bl b8])) t9 (.tup [.str "number", .bl b9])) l4 (.lst [.ref t8, .ref t9]))) [.ref t8, .ref t9] [(("span" : Str), b8), (("number" : Str), b9)] := (.cons ((sb8.same st9).same sl4) (.cons (sb9.same sl4) .nil))
  have hl4 : (upd (upd (upd J4 t8 (.tup [.str "span", .bl b8])) t9 (.tup [.str "number", .bl b9])) l4 (.lst [.ref t8, .ref t9])) l4 = some (.lst [.ref t8, .ref t9]) := upd_same
  have hS4 := sg4 _ _ hs4
  have hX4 := hx4.mono (fun v x (k : Sb J4 v x) => k.same sg4)
  have xl4 := hx4.len
  refine ⟨S4, l4, _, _, rfl, rfl, hS4, hl4, szle (by rw [xl4, eL4]; simp), fun r4 nr4 => ?_⟩
  have sr4 := same_upd (H := (upd (upd (upd J4 t8 (.tup [.str "span", .bl b8])) t9 (.tup [.str "number", .bl b9])) l4 (.lst [.ref t8, .ref t9]))) (o := .lst (X4 ++ [.ref t8, .ref t9])) nr4
  have ha5 := sr4 _ _ (sg4 _ _ ha4)
  have sm5 := sm4.trans (sg4.trans sr4)
  have hx5 := (hX4.app hv4).mono (fun v x (k : Sb (upd (upd (upd J4 t8 (.tup [.str "span", .bl b8])) t9 (.tup [.str "number", .bl b9])) l4 (.lst [.ref t8, .ref t9])) v x) => k.same sr4)
  have hs5 : (upd (upd (upd (upd J4 t8 (.tup [.str "span", .bl b8])) t9 (.tup [.str "number", .bl b9])) l4 (.lst [.ref t8, .ref t9])) r4 (.lst (X4 ++ [.ref t8, .ref t9]))) r4 = some (.lst (X4 ++ [.ref t8, .ref t9])) := upd_same
  generalize (upd (upd (upd (upd J4 t8 (.tup [.str "span", .bl b8])) t9 (.tup [.str "number", .bl b9])) l4 (.lst [.ref t8, .ref t9])) r4 (.lst (X4 ++ [.ref t8, .ref t9]))) = J5 at ha5 sm5 hx5 hs5
  have ex5 : ∃ (S : Addr) (X : List V) (L : List (Str × Bool)), L = L4 ++ [(("span" : Str), b8), (("number" : Str), b9)] ∧ J5 S = some (.lst X) ∧ All2 (Sb J5) X L ∧ S = r4 := ⟨r4, _, _, rfl, hs5, hx5, rfl⟩
  clear hs5 hx5
  obtain ⟨S5, X5, L5, eL5, hs5, hx5, ln5⟩ := ex5
  subst ln5
  rw [eL4] at eL5
  refine ⟨_, rfl, _, rfl, a, C, _, _, b10, rfl, ha5, hE, (fun u r => r), k10, two, fun t10 nt10 => ⟨_, rfl, a, C, _, _, b11, rfl, (same_upd nt10 _ _ ha5), hE, (fun u r => r), k11, two, fun t11 nt11 => ⟨two, fun l5 nl5 => ?_⟩⟩⟩
  have st10 := same_upd (H := J5) (o := .tup [.str "height", .bl b10]) nt10
  have sb10 : Sb (upd J5 t10 (.tup [.str "height", .bl b10])) (.ref t10) ("height", b10) := ⟨t10, rfl, upd_same⟩
  have st11 := same_upd (H := (upd J5 t10 (.tup [.str "height", .bl b10]))) (o := .tup [.str "budget", .bl b11]) nt11
  have sb11 : Sb (upd (upd J5 t10 (.tup [.str "height", .bl b10])) t11 (.tup [.str "budget", .bl b11])) (.ref t11) ("budget", b11) := ⟨t11, rfl, upd_same⟩
  have sl5 := same_upd (H := (upd (upd J5 t10 (.tup [.str "height", .bl b10])) t11 (.tup [.str "budget", .bl b11]))) (o := .lst [.ref t10, .ref t11]) nl5
  have sg5 := (st10.trans st11).trans sl5
  have hv5 : All2 (Sb (upd (upd (upd J5 t10 (.tup [.str "height", .bl b10])) t11 (.tup [.str "budget", .bl b11])) l5 (.lst [.ref t10, .ref t11]))) [.ref t10, .ref t11] [(("height" : Str), b10), (("budget" : Str), b11)] := (.cons ((sb10.same st11).same sl5) (.cons (sb11.same sl5) .nil))
  have hl5 : (upd (upd (upd J5 t10 (.tup [.str "height", .bl b10])) t11 (.tup [.str "budget", .bl b11])) l5 (.lst [.ref t10, .ref t11])) l5 = some (.lst [.ref t10, .ref t11]) := upd_same
  have hS5 := sg5 _ _ hs5
  have hX5 := hx5.mono (fun v x (k : Sb J5 v x) => k.same sg5)
  have xl5 := hx5.len
  refine ⟨S5, l5, _, _, rfl, rfl, hS5, hl5, szle (by rw [xl5, eL5]; simp), fun r5 nr5 => ?_⟩
  have sr5 := same_upd (H := (upd (upd (upd J5 t10 (.tup [.str "height", .bl b10])) t11 (.tup [.str "budget", .bl b11])) l5 (.lst [.ref t10, .ref t11]))) (o := .lst (X5 ++ [.ref t10, .ref t11])) nr5
  have ha6 := sr5 _ _ (sg5 _ _ ha5)
  have sm6 := sm5.trans (sg5.trans sr5)
  have hx6 := (hX5.app hv5).mono (fun v x (k : Sb (upd (upd (upd J5 t10 (.tup [.str "height", .bl b10])) t11 (.tup [.str "budget", .bl b11])) l5 (.lst [.ref t10, .ref t11])) v x) => k.same sr5)
  have hs6 : (upd (upd (upd (upd J5 t10 (.tup [.str "height", .bl b10])) t11 (.tup [.str "budget", .bl b11])) l5 (.lst [.ref t10, .ref t11])) r5 (.lst (X5 ++ [.ref t10, .ref t11]))) r5 = some (.lst (X5 ++ [.ref t10, .ref t11])) := upd_same
  generalize (upd (upd (upd (upd J5 t10 (.tup [.str "height", .bl b10])) t11 (.tup [.str "budget", .bl b11])) l5 (.lst [.ref t10, .ref t11])) r5 (.lst (X5 ++ [.ref t10, .ref t11]))) = J6 at ha6 sm6 hx6 hs6
  have ex6 : ∃ (S : Addr) (X : List V) (L : List (Str × Bool)), L = L5 ++ [(("height" : Str), b10), (("budget" : Str), b11)] ∧ J6 S = some (.lst X) ∧ All2 (Sb J6) X L ∧ S = r5 := ⟨r5, _, _, rfl, hs6, hx6, rfl⟩
  clear hs6 hx6
  obtain ⟨S6, X6, L6, eL6, hs6, hx6, ln6⟩ := ex6
  subst ln6
  rw [eL5] at eL6
  refine ⟨_, rfl, _, rfl, a, C, _, _, b12, rfl, ha6, hE, (fun u r => r), k12, two, fun t12 nt12 => ⟨_, rfl, a, C, _, _, b13, rfl, (same_upd nt12 _ _ ha6), hE, (fun u r => r), k13, two, fun t13 nt13 => ⟨two, fun l6 nl6 => ?_⟩⟩⟩
  have st12 := same_upd (H := J6) (o := .tup [.str "operation", .bl b12]) nt12
  have sb12 : Sb (upd J6 t12 (.tup [.str "operation", .bl b12])) (.ref t12) ("operation", b12) := ⟨t12, rfl, upd_same⟩
  have st13 := same_upd (H := (upd J6 t12 (.tup [.str "operation", .bl b12]))) (o := .tup [.str "nothing", .bl b13]) nt13
  have sb13 : Sb (upd (upd J6 t12 (.tup [.str "operation", .bl b12])) t13 (.tup [.str "nothing", .bl b13])) (.ref t13) ("nothing", b13) := ⟨t13, rfl, upd_same⟩
  have sl6 := same_upd (H := (upd (upd J6 t12 (.tup [.str "operation", .bl b12])) t13 (.tup [.str "nothing", .bl b13]))) (o := .lst [.ref t12, .ref t13]) nl6
  have sg6 := (st12.trans st13).trans sl6
  have hv6 : All2 (Sb (upd (upd (upd J6 t12 (.tup [.str "operation", .bl b12])) t13 (.tup [.str "nothing", .bl b13])) l6 (.lst [.ref t12, .ref t13]))) [.ref t12, .ref t13] [(("operation" : Str), b12), (("nothing" : Str), b13)] := (.cons ((sb12.same st13).same sl6) (.cons (sb13.same sl6) .nil))
  have hl6 : (upd (upd (upd J6 t12 (.tup [.str "operation", .bl b12])) t13 (.tup [.str "nothing", .bl b13])) l6 (.lst [.ref t12, .ref t13])) l6 = some (.lst [.ref t12, .ref t13]) := upd_same
  have hS6 := sg6 _ _ hs6
  have hX6 := hx6.mono (fun v x (k : Sb J6 v x) => k.same sg6)
  have xl6 := hx6.len
  refine ⟨S6, l6, _, _, rfl, rfl, hS6, hl6, szle (by rw [xl6, eL6]; simp), fun r6 nr6 => ?_⟩
  have sr6 := same_upd (H := (upd (upd (upd J6 t12 (.tup [.str "operation", .bl b12])) t13 (.tup [.str "nothing", .bl b13])) l6 (.lst [.ref t12, .ref t13]))) (o := .lst (X6 ++ [.ref t12, .ref t13])) nr6
  have ha7 := sr6 _ _ (sg6 _ _ ha6)
  have sm7 := sm6.trans (sg6.trans sr6)
  have hx7 := (hX6.app hv6).mono (fun v x (k : Sb (upd (upd (upd J6 t12 (.tup [.str "operation", .bl b12])) t13 (.tup [.str "nothing", .bl b13])) l6 (.lst [.ref t12, .ref t13])) v x) => k.same sr6)
  have hs7 : (upd (upd (upd (upd J6 t12 (.tup [.str "operation", .bl b12])) t13 (.tup [.str "nothing", .bl b13])) l6 (.lst [.ref t12, .ref t13])) r6 (.lst (X6 ++ [.ref t12, .ref t13]))) r6 = some (.lst (X6 ++ [.ref t12, .ref t13])) := upd_same
  generalize (upd (upd (upd (upd J6 t12 (.tup [.str "operation", .bl b12])) t13 (.tup [.str "nothing", .bl b13])) l6 (.lst [.ref t12, .ref t13])) r6 (.lst (X6 ++ [.ref t12, .ref t13]))) = J7 at ha7 sm7 hx7 hs7
  have ex7 : ∃ (S : Addr) (X : List V) (L : List (Str × Bool)), L = L6 ++ [(("operation" : Str), b12), (("nothing" : Str), b13)] ∧ J7 S = some (.lst X) ∧ All2 (Sb J7) X L ∧ S = r6 := ⟨r6, _, _, rfl, hs7, hx7, rfl⟩
  clear hs7 hx7
  obtain ⟨S7, X7, L7, eL7, hs7, hx7, ln7⟩ := ex7
  subst ln7
  rw [eL6] at eL7
  refine ⟨_, rfl, _, rfl, a, C, _, _, b14, rfl, ha7, hE, (fun u r => r), k14, two, fun t14 nt14 => ⟨one1, fun l7 nl7 => ?_⟩⟩
  have st14 := same_upd (H := J7) (o := .tup [.str "command", .bl b14]) nt14
  have sb14 : Sb (upd J7 t14 (.tup [.str "command", .bl b14])) (.ref t14) ("command", b14) := ⟨t14, rfl, upd_same⟩
  have sl7 := same_upd (H := (upd J7 t14 (.tup [.str "command", .bl b14]))) (o := .lst [.ref t14]) nl7
  have sg7 := st14.trans sl7
  have hv7 : All2 (Sb (upd (upd J7 t14 (.tup [.str "command", .bl b14])) l7 (.lst [.ref t14]))) [.ref t14] [(("command" : Str), b14)] := (.cons (sb14.same sl7) .nil)
  have hl7 : (upd (upd J7 t14 (.tup [.str "command", .bl b14])) l7 (.lst [.ref t14])) l7 = some (.lst [.ref t14]) := upd_same
  have hS7 := sg7 _ _ hs7
  have hX7 := hx7.mono (fun v x (k : Sb J7 v x) => k.same sg7)
  have xl7 := hx7.len
  refine ⟨S7, l7, _, _, rfl, rfl, hS7, hl7, szle (by rw [xl7, eL7]; simp), fun r7 nr7 => ?_⟩
  have sr7 := same_upd (H := (upd (upd J7 t14 (.tup [.str "command", .bl b14])) l7 (.lst [.ref t14]))) (o := .lst (X7 ++ [.ref t14])) nr7
  have ha8 := sr7 _ _ (sg7 _ _ ha7)
  have sm8 := sm7.trans (sg7.trans sr7)
  have hx8 := (hX7.app hv7).mono (fun v x (k : Sb (upd (upd J7 t14 (.tup [.str "command", .bl b14])) l7 (.lst [.ref t14])) v x) => k.same sr7)
  have hs8 : (upd (upd (upd J7 t14 (.tup [.str "command", .bl b14])) l7 (.lst [.ref t14])) r7 (.lst (X7 ++ [.ref t14]))) r7 = some (.lst (X7 ++ [.ref t14])) := upd_same
  have free8 := (sm7.trans sg7).free nr7
  generalize (upd (upd (upd J7 t14 (.tup [.str "command", .bl b14])) l7 (.lst [.ref t14])) r7 (.lst (X7 ++ [.ref t14]))) = J8 at ha8 sm8 hx8 hs8
  have ex8 : ∃ (S : Addr) (X : List V) (L : List (Str × Bool)), L = L7 ++ [(("command" : Str), b14)] ∧ J8 S = some (.lst X) ∧ All2 (Sb J8) X L ∧ S = r7 := ⟨r7, _, _, rfl, hs8, hx8, rfl⟩
  clear hs8 hx8
  obtain ⟨S8, X8, L8, eL8, hs8, hx8, ln8⟩ := ex8
  subst ln8
  rw [eL7] at eL8
  have eL : L8 = clsNames.zip [b0, b1, b2, b3, b4, b5, b6, b7, b8, b9, b10, b11, b12, b13, b14] := by rw [eL8]; rfl
  rw [eL] at hx8
  exact q _ S8 X8 sm8 free8 hs8 hx8
end
end LT

namespace LT
open PySem PySem.Spec PyProof.Rows L2
section
variable {P : Program} {w : World} {K : PySem.W.Frag} {mg : Str → Option Value} {base : Heap}
def spToldKind (K : PySem.W.Frag) (Cs : List Addr) : Sp := fun vs H Q _ => ∃ (a C : Addr) (bs : List Bool) (nm : Str), vs = [.ref a] ∧ H a = some (ExK (.ref C) none a) ∧ ExcC K C ∧ Kit K C Cs bs ∧ PySem.W.kitOne K (.ref C) (.type "ValueError") = some true ∧
  ((clsNames.zip bs).filter fun x => x.2).map (fun x => x.1) = [nm] ∧ nm ≠ "spans" ∧ nm ≠ "nodes" ∧ nm ≠ "bounds" ∧ nm ≠ "text" ∧ nm ≠ "over" ∧ nm ++ ("" : Str) = nm ∧ nm.length ≤ 100 ∧ ∀ H', Same H H' → Q (.str nm) H'
theorem ok_law_told_kind {f g1 : Addr} {fd d1 : FuncData} {Cs : List Addr} (F : Fun K "_law_told_kind" "_law_told_kind" sLawToldKind f fd)
    (GLawKinds : FnOk P w K mg base CX0 1 g1 d1 ["e"] (spKinds K Cs)) (ALawKinds : At K mg "_law_kinds" g1 d1 ["e"])
    (z_isinstance : mg "isinstance" = none) (z_len : mg "len" = none) (z_repr : mg "repr" = none) (z_ValueError : mg "ValueError" = none) : FnOk P w K mg base CX0 2 f fd ["e"] (spToldKind K Cs) := by
  refine F.ok scLawToldKind (fun vs H Q E h => ?_) (fun cdv A outer s H vs Q E hr h => ?_)
  · obtain ⟨_, _, _, _, rfl, _⟩ := h
    rfl
  obtain ⟨a, C, bs, nm, rfl, ha, hE, hk, hV, hf, n1, n2, n3, n4, n5, hap, hl, q⟩ := h
  refine' ⟨_, (pss_cons (ps_set (i := 1) scLawToldKind.nd rfl (Or.inl rfl) (pe_lst pa_nil))
    (pss_cons (ps_for PassesOwn.never rfl (pi_list (pe_call GLawKinds (hr.mono (by decide)) rfl ALawKinds.m ALawKinds.kp ALawKinds.b .nil pass0 (pa_cons (pv 0) pa_nil))) (pg_tup (by rfl) (pgs_cons (pg_name (i := 2) scLawToldKind.nd rfl (Or.inl rfl)) (pgs_cons (pg_name (i := 3) scLawToldKind.nd rfl (Or.inl rfl)) pgs_nil)))
    (pss_one (ps_if (pt_val (pv 3))
    (pss_one (ps_expr (pe_bm PySem.F.plainAttrs_list PySem.F.slot_list_append PySem.F.type_list_append mt_append (pv 1) (pa_cons (pv 2) pa_nil))))
    pss_nil)))
    (pss_cons (ps_if (PW.pt (pw_or (pt_cmpR op_ne (pe_callB call_len_seq (by rfl) z_len PySem.boot_len (pa_cons (pv 1) pa_nil)) pe_int (nomark _)) (pw_or1 (pt_not (pt_val (pe_callB call_isK (by rfl) z_isinstance (by decide +kernel) (pa_cons (pv 0) (pa_cons (pe_bltn (v := .ty "ValueError") (u := .type "ValueError") (by rfl) z_ValueError (by decide +kernel) rfl) pa_nil))))))))
    (pss_one (ps_ret pe_str))
    pss_nil)
    (pss_cons (ps_if (pt_cmpR op_in_seq (pe_ix ix_list (pv 1) pe_int (fun _ _ => rfl)) (pe_tup (pa_cons pe_str (pa_cons pe_str (pa_cons pe_str pa_nil)))) (by rfl))
    (pss_one (ps_ret (pe_op op_add_str (pe_op op_add_str (pe_ix ix_list (pv 1) pe_int (fun _ _ => rfl)) pe_str) (pe_callB SkE.call_repr_int (by rfl) z_repr (by decide +kernel) (pa_cons (pe_fld (pv 0) rfl) pa_nil)))))
    pss_nil)
    (pss_cons (ps_if (pt_cmpR op_eq (pe_ix ix_list (pv 1) pe_int (fun _ _ => rfl)) pe_str (nomark _))
    (pss_one (ps_ret (pe_op op_add_str pe_str (pe_callB SkE.call_repr_int (by rfl) z_repr (by decide +kernel) (pa_cons (pe_fld (pv 0) rfl) pa_nil)))))
    pss_nil)
    (pss_one (ps_ret (pe_op op_add_str (pe_ix ix_list (pv 1) pe_int (fun _ _ => rfl)) (pe_ifExp (pt_cmpR op_eq (pe_ix ix_list (pv 1) pe_int (fun _ _ => rfl)) pe_str (nomark _)) (pe_op op_add_str pe_str (pe_callB SkE.call_repr_int (by rfl) z_repr (by decide +kernel) (pa_cons (pe_fld (pv 0) rfl) pa_nil))) pe_str))))))))), ?_⟩
  have three : 3 ≤ sizeLine := by decide
  refine ⟨Nat.zero_le _, fun D nD => ?_⟩
  have s0 := same_upd (o := .lst []) nD
  refine ⟨_, rfl, a, C, bs, rfl, s0 _ _ ha, hE, hk, fun H1 p xs s1 np hp hx => ?_⟩
  have hD1 : H1 D = some (.lst []) := s1 _ _ upd_same
  have pD : p ≠ D := fun z => by rw [z, upd_same] at np; cases np
  have ha1 := s1 _ _ (s0 _ _ ha)
  have s01 := s0.trans s1
  have hlen : (clsNames.zip bs).length ≤ 15 := by rw [List.length_zip]; exact Nat.min_le_left _ _
  generalize clsNames.zip bs = L at hf hx hlen
  have aD : a ≠ D := ne_of_none ha nD
  refine ⟨p, rfl, ⟨_, SqL.of hp⟩, for_list (K := K) (a := p) (xs := xs) (fun i σ H' => ∃ v2 v3 : Option V, σ = [some (.ref a), some (.ref D), v2, v3] ∧ But D H1 H' ∧ H' D = some (.lst (((L.take i).filter fun x => x.2).map fun x => V.str x.1)))
    ⟨none, none, rfl, But.refl D H1, hD1⟩ (fun i σ H' _ ⟨_, _, _, B, _⟩ => SqL.of (B _ _ pD hp)) ?_ ?_⟩
  · rintro i v σ G hi ⟨v2, v3, rfl, B, hD⟩
    obtain ⟨x, hxi, xp, rfl, hxp⟩ := hx.nth hi
    have hxG := B _ _ (ne_of hxp hD1 (fun z => by cases z)) hxp
    have fl : ((L.take i).filter fun x => x.2).length ≤ 15 := by
      have := List.length_filter_le (fun x : Str × Bool => x.2) (L.take i)
      rw [List.length_take] at this
      omega
    refine ⟨xp, _, rfl, SqT.of hxG, rfl, _, _, rfl, _, _, rfl, rfl, ?_⟩
    cases hb : x.2 with
    | true =>
      refine ⟨_, rfl, true, rfl, ?_⟩
      refine ⟨_, rfl, .inl ⟨rfl, _, SqL.of hD⟩, _, rfl, D, _, _, rfl, rfl, hD, szlt (by rw [List.length_map]; omega), ?_⟩
      refine ⟨_, _, rfl, fun u o n k => by rw [upd_ne n]; exact B u o n k, ?_⟩
      rw [take_more hxi, List.filter_append, List.filter_cons, hb, List.map_append]
      exact upd_same
    | false =>
      refine ⟨_, rfl, false, rfl, ?_⟩
      refine ⟨_, _, rfl, B, ?_⟩
      rw [take_more hxi, List.filter_append, List.filter_cons, hb]
      simpa using hD
  rintro σ G ⟨v2, v3, rfl, B, hD⟩
  rw [hx.len, List.take_length] at hD
  have hD : G D = some (.lst [.str nm]) := by
    have e : ((L.filter fun x => x.2).map fun x => V.str x.1) = ((L.filter fun x => x.2).map fun x => x.1).map V.str := by rw [List.map_map]; rfl
    rw [hD, e, hf]
    rfl
  have haG := B _ _ aD ha1
  have sG : Same H G := fun u o k => B u o (ne_of_none k nD) (s01 _ _ k)
  refine ⟨_, rfl, D, _, rfl, .inl (SqL.of hD), rfl, false, rfl, ?_⟩
  refine ⟨_, rfl, a, C, _, _, true, rfl, haG, hE, (fun u r => r), hV, true, rfl, ?_⟩
  have at0 : atI [V.str nm] 0 = some (.str nm) := atI_nat (j := 0) rfl
  refine ⟨_, rfl, D, _, _, _, rfl, rfl, SqL.of hD, at0, three, fun t nt => ⟨t, _, rfl, .inr (SqT.of upd_same), rfl, rfl, ?_⟩⟩
  have st := same_upd (o := .tup [.str "spans", .str "nodes", .str "bounds"]) nt
  have hD2 := st _ _ hD
  have sZ := sG.trans st
  generalize upd G t (.tup [.str "spans", .str "nodes", .str "bounds"]) = G2 at hD2 sZ
  have eqF : ∀ {x y : Str}, ¬ y = x → (x == y) = false := fun h => by
    rw [beq_eq_false_iff_ne]
    exact fun z => h z.symm
  have inF : inV (V.str nm) [V.str "spans", V.str "nodes", V.str "bounds"] = false := by
    show ((Str.ofString "spans" == nm) || ((Str.ofString "nodes" == nm) || ((Str.ofString "bounds" == nm) || false))) = false
    rw [eqF n1, eqF n2, eqF n3]
    rfl
  refine ⟨false, congrArg V.bl inF, ?_⟩
  refine ⟨_, rfl, D, _, _, _, rfl, rfl, SqL.of hD2, at0, rfl, false, congrArg V.bl (decide_eq_false (fun z => n4 (V.str.inj z))), ?_⟩
  refine ⟨_, rfl, D, _, _, _, rfl, rfl, SqL.of hD2, at0, ?_⟩
  refine ⟨_, rfl, D, _, _, _, rfl, rfl, SqL.of hD2, at0, rfl, false, congrArg V.bl (decide_eq_false (fun z => n5 (V.str.inj z))), _, _, rfl, rfl, ?_, ?_⟩
  · exact szle (by have : (Str.ofString "").length = 0 := rfl; omega)
  · have : Q (.str (nm ++ ("" : Str))) G2 := by rw [hap]; exact q G2 sZ
    exact this
end
end LT

namespace LT
open PySem PySem.Spec PyProof.Rows L2
/-- what the top says of an own class of errors without an __init__ -/
structure XF (K : PySem.W.Frag) (mg : Str → Option Value) (x : Str) (C : Addr) : Prop where
  g : mg x = some (.ref C)
  k : PySem.W.keepIn K (.ref C) = true
  q : PySem.W.excIn K C [.type "ValueError", .type "Exception", .type "BaseException", .type "object"] "ValueError.__new__" = true
  b : PySem.W.subIn K (.ref C) (.type "BaseException") = some true
  t : PySem.W.typeIn K (.ref C) = some (.type "type")
section
variable {P : Program} {w : World} {K : PySem.W.Frag} {mg : Str → Option Value} {base : Heap} {k : Nat} {f : Addr} {fd : FuncData} {ps : List Str} {sp sp1 sp2 : Sp} {CY : CXT}
theorem both (A : FnOk P w K mg base CY k f fd ps sp1) (B : FnOk P w K mg base CY k f fd ps sp2) : FnOk P w K mg base CY k f fd ps (fun vs H Q E => sp1 vs H Q E ∨ sp2 vs H Q E) :=
  ⟨fun vs H Q E h => h.elim (A.len vs H Q E) (B.len vs H Q E), fun A' outer s H args us vs Q E hr ev hb rv h => h.elim (A.run A' outer s H args us vs Q E hr ev hb rv) (B.run A' outer s H args us vs Q E hr ev hb rv)⟩
theorem toX (A : FnOk P w K mg base CX0 k f fd ps sp) : FnOk P w K mg base (L2.CX P w) k f fd ps sp := by
  refine ⟨A.len, fun A' outer s H args us vs Q E hr ev hb rv h => codeAny_mono (A.run A' outer s H args us vs Q E hr ev hb rv h) ?_⟩
  intro r s' hq
  cases r with
  | error e => exact False.elim hq
  | ok fl => cases fl <;> exact hq
end
section
variable {P : Program} {w : World} {K : PySem.W.Frag} {mg : Str → Option Value} {base : Heap} {CInvalidSize CInvalidNumber CS CN : Addr}
def top30 : Int := 1000000000000000000000000000000
def spCheckSizeX (K : PySem.W.Frag) (C : Addr) : Sp := fun vs H Q E => ∃ (v : V) (t : String), vs = [v] ∧ Pl K H v t ∧ ((inRange 1 top30 v = true ∧ Q .non H) ∨ (inRange 1 top30 v = false ∧ E (.ref C) none H))
theorem okX_check_size {f g : Addr} {fd gd : FuncData} {t : Tok} (F : Fun K "check_size" "check_size" sCheckSize f fd) (XInvalidSize : XF K mg "InvalidSize" CInvalidSize) (GIsBetween : FnOk P w K mg base CX0 2 g gd ["value", "low", "high"] (spBetweenV K)) (AIsBetween : At K mg "is_between" g gd ["value", "low", "high"]) (g_MOST_ENTRIES : mg "MOST_ENTRIES" = some (.int 1000000000000000000000000000000 t)) :
    FnOk P w K mg base (L2.CX P w) 3 f fd ["size"] (spCheckSizeX K CInvalidSize) := by
  refine F.okX scCheckSize (fun vs H Q E h => ?_) (fun cdv A outer s H vs Q E hr h => ?_)
  · obtain ⟨_, _, rfl, _⟩ := h
    rfl
  obtain ⟨v, ty, rfl, hv, q⟩ := h
  refine ⟨_, (pss_one (ps_if (pt_not (pt_val (pe_call GIsBetween (hr.mono (by decide)) rfl AIsBetween.m AIsBetween.kp AIsBetween.b .nil pass0 (pa_cons (pv 0) (pa_cons pe_int (pa_cons (pe_glob (v := .int 1000000000000000000000000000000) rfl g_MOST_ENTRIES ⟨_, rfl⟩) pa_nil))))))
    (pss_one (ps_raise rfl (takes_of rfl rfl rfl rfl) (pmk_own PySem.F.excBase_ValueError XInvalidSize.q XInvalidSize.g XInvalidSize.k (raises_own XInvalidSize.b XInvalidSize.t) rfl)))
    pss_nil)), ?_⟩
  refine ⟨_, rfl, v, ty, 1, top30, rfl, hv, inRange 1 top30 v, rfl, ?_⟩
  rcases q with ⟨e, q⟩ | ⟨e, q⟩
  · rw [e]; exact q
  · rw [e]; exact q
theorem num_len {i : Int} (h : i.natAbs < 10 ^ 66) : (Str.ofString (toString i)).length ≤ 100 := by
  have e := int_text_length_le10 (a := i) (k := 66) (by decide) h
  rw [PySem.ofString_length]
  omega
theorem num_log {i : Int} (h : i.natAbs < 10 ^ 66) : i.natAbs.log2 < 1920 := by
  by_cases z : i.natAbs = 0
  · rw [z]; decide
  · exact Nat.lt_of_lt_of_le ((Nat.log2_lt (k := 250) z).mpr (Nat.lt_of_lt_of_le h (by decide))) (by decide)
/-- an integer from lo on -/
def fromR (lo : Int) : V → Bool
  | .int i => decide (lo ≤ i)
  | _ => false
def spCheckFromX (K : PySem.W.Frag) (C : Addr) : Sp := fun vs H Q E => ∃ (v : V) (t : String) (lo : Int), vs = [v, .int lo] ∧ Pl K H v t ∧ lo.natAbs < 10 ^ 66 ∧ ((fromR lo v = true ∧ Q .non H) ∨ (fromR lo v = false ∧ E (.ref C) none H))
theorem okX_check_number_from {f g : Addr} {fd gd : FuncData} (F : Fun K "check_number_from" "check_number_from" sCheckNumberFrom f fd) (XInvalidNumber : XF K mg "InvalidNumber" CInvalidNumber) (GIsWhole : FnOk P w K mg base CX0 1 g gd ["value"] (spWholeV K)) (AIsWhole : At K mg "is_whole" g gd ["value"]) :
    FnOk P w K mg base (L2.CX P w) 2 f fd ["number", "least"] (spCheckFromX K CInvalidNumber) := by
  refine F.okX scCheckNumberFrom (fun vs H Q E h => ?_) (fun cdv A outer s H vs Q E hr h => ?_)
  · obtain ⟨_, _, _, rfl, _⟩ := h
    rfl
  obtain ⟨v, ty, lo, rfl, hv, hlo, q⟩ := h
  refine ⟨_, (pss_one (ps_if (PW.pt (pw_or (pt_not (pt_val (pe_call GIsWhole (hr.mono (by decide)) rfl AIsWhole.m AIsWhole.kp AIsWhole.b .nil pass0 (pa_cons (pv 0) pa_nil)))) (pw_or1 (pt_cmpR op_lt (pv 0) (pv 1) (nomark _)))))
    (pss_one (ps_raise rfl (takes_of rfl rfl rfl rfl) (SkE.pmk_own1 PySem.F.excBase_ValueError XInvalidNumber.q XInvalidNumber.g XInvalidNumber.k (raises_own XInvalidNumber.b XInvalidNumber.t) rfl (pe_joined (PJ.cons pe_str (PJ.cons (pe_fmt (pv 1)) PJ.nil))))))
    pss_nil)), ?_⟩
  have a0 : (Str.empty ++ ("a number here is an integer from " : Str)).length ≤ 50 := by decide +kernel
  have a1 : ((Str.empty ++ ("a number here is an integer from " : Str)) ++ Str.ofString (toString lo)).length ≤ sizeLine := by
    rw [PySem.Str.length_append]
    have := num_len hlo
    exact szle (by omega)
  refine ⟨_, rfl, v, ty, rfl, hv, isInt v, rfl, ?_⟩
  cases hv with
  | int j =>
    refine ⟨_, rfl, _, rfl, _, _, rfl, rfl, _, rfl, ite2 (fun c => ?_) (fun c => ?_)⟩
    · have c1 : j < lo := of_decide_eq_true c
      rcases q with ⟨e, q⟩ | ⟨e, q⟩
      · have e1 : lo ≤ j := of_decide_eq_true e
        omega
      · exact ⟨_, rfl, szle (by omega), _, rfl, .inr ⟨lo, rfl, num_log hlo, _, rfl, a1, q⟩⟩
    · have c1 : ¬ j < lo := of_decide_eq_false (Bool.eq_false_iff.mpr c)
      rcases q with ⟨e, q⟩ | ⟨e, q⟩
      · exact q
      · have e1 : ¬ lo ≤ j := of_decide_eq_false e
        omega
  | _ =>
    rcases q with ⟨e, q⟩ | ⟨e, q⟩
    · exact absurd (show false = true from e) (by decide)
    · exact ⟨_, rfl, szle (by omega), _, rfl, .inr ⟨lo, rfl, num_log hlo, _, rfl, a1, q⟩⟩
def spCheckBetweenX (K : PySem.W.Frag) (C : Addr) : Sp := fun vs H Q E => ∃ (v : V) (t : String) (lo hi : Int), vs = [v, .int lo, .int hi] ∧ Pl K H v t ∧ lo.natAbs < 10 ^ 66 ∧ hi.natAbs < 10 ^ 66 ∧ ((inRange lo hi v = true ∧ Q .non H) ∨ (inRange lo hi v = false ∧ E (.ref C) none H))
theorem okX_check_number_between {f g : Addr} {fd gd : FuncData} (F : Fun K "check_number_between" "check_number_between" sCheckNumberBetween f fd) (XInvalidNumber : XF K mg "InvalidNumber" CInvalidNumber) (GIsBetween : FnOk P w K mg base CX0 2 g gd ["value", "low", "high"] (spBetweenV K)) (AIsBetween : At K mg "is_between" g gd ["value", "low", "high"]) :
    FnOk P w K mg base (L2.CX P w) 3 f fd ["number", "least", "most"] (spCheckBetweenX K CInvalidNumber) := by
  refine F.okX scCheckNumberBetween (fun vs H Q E h => ?_) (fun cdv A outer s H vs Q E hr h => ?_)
  · obtain ⟨_, _, _, _, rfl, _⟩ := h
    rfl
  obtain ⟨v, ty, lo, hi, rfl, hv, hlo, hhi, q⟩ := h
  refine ⟨_, (pss_one (ps_if (pt_not (pt_val (pe_call GIsBetween (hr.mono (by decide)) rfl AIsBetween.m AIsBetween.kp AIsBetween.b .nil pass0 (pa_cons (pv 0) (pa_cons (pv 1) (pa_cons (pv 2) pa_nil))))))
    (pss_one (ps_raise rfl (takes_of rfl rfl rfl rfl) (SkE.pmk_own1 PySem.F.excBase_ValueError XInvalidNumber.q XInvalidNumber.g XInvalidNumber.k (raises_own XInvalidNumber.b XInvalidNumber.t) rfl (pe_joined (PJ.cons pe_str (PJ.cons (pe_fmt (pv 1)) (PJ.cons pe_str (PJ.cons (pe_fmt (pv 2)) PJ.nil))))))))
    pss_nil)), ?_⟩
  have a0 : (Str.empty ++ ("a number here is an integer from " : Str)).length ≤ 50 := by decide +kernel
  have a1 : ((Str.empty ++ ("a number here is an integer from " : Str)) ++ Str.ofString (toString lo)).length ≤ 150 := by
    rw [PySem.Str.length_append]
    have := num_len hlo
    omega
  have t4 : (" to " : Str).length = 4 := rfl
  have a2 : (((Str.empty ++ ("a number here is an integer from " : Str)) ++ Str.ofString (toString lo)) ++ (" to " : Str)).length ≤ 154 := by
    rw [PySem.Str.length_append]
    omega
  have a3 : ((((Str.empty ++ ("a number here is an integer from " : Str)) ++ Str.ofString (toString lo)) ++ (" to " : Str)) ++ Str.ofString (toString hi)).length ≤ 300 := by
    rw [PySem.Str.length_append]
    have := num_len hhi
    omega
  refine ⟨_, rfl, _, rfl, _, rfl, v, ty, lo, hi, rfl, hv, inRange lo hi v, rfl, ?_⟩
  rcases q with ⟨e, q⟩ | ⟨e, q⟩
  · rw [e]; exact q
  · rw [e]
    exact ⟨_, rfl, szle (by omega), _, rfl, .inr ⟨lo, rfl, num_log hlo, _, rfl, szle (by omega), _, rfl, szle (by omega), _, rfl, .inr ⟨hi, rfl, num_log hhi, _, rfl, szle (by omega), q⟩⟩⟩
def spSizeX (K : PySem.W.Frag) (CS : Addr) : Sp := fun vs H Q E => ∃ (v : V) (t : String), vs = [v] ∧ Pl K H v t ∧ inRange 1 top30 v = false ∧ E (.ref CS) none H
theorem okX_peaks {f g1 g2 : Addr} {fd d1 d2 : FuncData} (F : Fun K "peaks" "peaks" sPeaks f fd) (GXCheckSize : FnOk P w K mg base (L2.CX P w) 3 g1 d1 ["size"] (spCheckSizeX K CS)) (ACheckSize : At K mg "check_size" g1 d1 ["size"])
    (GPowerWithin : FnOk P w K mg base CX0 1 g2 d2 ["number"] spPower) (APowerWithin : At K mg "power_within" g2 d2 ["number"]) : FnOk P w K mg base (L2.CX P w) 4 f fd ["size"] (spSizeX K CS) := by
  refine F.okX scPeaks (fun vs H Q E h => ?_) (fun cdv A outer s H vs Q E hr h => ?_)
  · obtain ⟨_, _, rfl, _⟩ := h
    rfl
  obtain ⟨v, t, rfl, hv, e, q⟩ := h
  refine ⟨_, (pss_cons (ps_expr (pe_callS GXCheckSize (hr.mono (by decide)) rfl ACheckSize.m ACheckSize.kp ACheckSize.b (fun σ => passAt (takes_of rfl rfl rfl rfl) σ) (pa_cons (pv 0) pa_nil)))
    (pss_cons (ps_set (i := 1) scPeaks.nd rfl (Or.inl rfl) (pe_lst pa_nil))
    (pss_cons (ps_set (i := 2) scPeaks.nd rfl (Or.inl rfl) pe_int)
    (pss_cons (ps_while PassesOwn.leaving (pt_cmpR op_lt (pv 2) (pv 0) (nomark _))
    (pss_cons (ps_set (i := 3) scPeaks.nd rfl (Or.inl rfl) (pe_op op_add (pv 2) (pe_call GPowerWithin (hr.mono (by decide)) rfl APowerWithin.m APowerWithin.kp APowerWithin.b .nil pass0 (pa_cons (pe_op op_sub (pv 0) (pv 2)) pa_nil))))
    (pss_cons (ps_expr (pe_bm PySem.F.plainAttrs_list PySem.F.slot_list_append PySem.F.type_list_append mt_append (pv 1) (pa_cons (pe_tup (pa_cons (pv 2) (pa_cons (pv 3) pa_nil))) pa_nil)))
    (pss_one (ps_set (i := 2) scPeaks.nd rfl (Or.inl rfl) (pv 3))))))
    (pss_one (ps_ret (pv 1))))))), ?_⟩
  exact ⟨_, rfl, v, t, rfl, hv, .inr ⟨e, q⟩⟩
theorem okX_edges {f g1 : Addr} {fd d1 : FuncData} (F : Fun K "edges" "edges" sEdges f fd) (GXPeaks : FnOk P w K mg base (L2.CX P w) 4 g1 d1 ["size"] (spSizeX K CS)) (APeaks : At K mg "peaks" g1 d1 ["size"]) : FnOk P w K mg base (L2.CX P w) 5 f fd ["size"] (spSizeX K CS) := by
  refine F.okX scEdges (fun vs H Q E h => ?_) (fun cdv A outer s H vs Q E hr h => ?_)
  · obtain ⟨_, _, rfl, _⟩ := h
    rfl
  obtain ⟨v, t, rfl, hv, e, q⟩ := h
  refine ⟨_, (pss_one (ps_ret (pe_lc (own := [("begin", 1), ("_", 2)]) rfl scEdges.nd (pi_list (pe_slice sl_list (pe_callS GXPeaks (hr.mono (by decide)) rfl APeaks.m APeaks.kp APeaks.b (fun σ => passAt (takes_of rfl rfl rfl rfl) σ) (pa_cons (pv 0) pa_nil)) po_none (po_some (pe_un un_neg pe_int)))) (blkOk_by (N := ["size", "begin", "_"]) (sc := defScope sEdges) (by decide +kernel)) (fun _ _ _ _ _ => (pg_tupB (n := 2) rfl (pgs_cons (pg_name (i := 1) scEdges.nd rfl (Or.inl rfl)) (pgs_cons (pg_name (i := 2) scEdges.nd rfl (Or.inl rfl)) pgs_nil)))) (fun _ _ _ _ _ => pts_nil) (fun _ _ _ _ _ => (pe_tup (pa_cons (pv 1) (pa_cons (pv 0) pa_nil))))))), ?_⟩
  exact ⟨_, rfl, v, t, rfl, hv, e, q⟩

theorem okX_root_sums {f g1 : Addr} {fd d1 : FuncData} (F : Fun K "root_sums" "root_sums" sRootSums f fd) (GXEdges : FnOk P w K mg base (L2.CX P w) 5 g1 d1 ["size"] (spSizeX K CS)) (AEdges : At K mg "edges" g1 d1 ["size"]) (z_len : mg "len" = none) : FnOk P w K mg base (L2.CX P w) 6 f fd ["size"] (spSizeX K CS) := by
  refine F.okX scRootSums (fun vs H Q E h => ?_) (fun cdv A outer s H vs Q E hr h => ?_)
  · obtain ⟨_, _, rfl, _⟩ := h
    rfl
  obtain ⟨v, t, rfl, hv, e, q⟩ := h
  refine ⟨_, (pss_one (ps_ret (pe_callB call_len_seq (by rfl) z_len PySem.boot_len (pa_cons (pe_callS GXEdges (hr.mono (by decide)) rfl AEdges.m AEdges.kp AEdges.b (fun σ => passAt (takes_of rfl rfl rfl rfl) σ) (pa_cons (pv 0) pa_nil)) pa_nil)))), ?_⟩
  exact ⟨_, rfl, v, t, rfl, hv, e, q⟩
/-- a wrong size, or behind a good one a wrong number of entries -/
def spAppendX (K : PySem.W.Frag) (CS CN : Addr) : Sp := fun vs H Q E => ∃ (v1 v2 : V) (t1 t2 : String), vs = [v1, v2] ∧ Pl K H v1 t1 ∧ Pl K H v2 t2 ∧
  ((inRange 1 top30 v1 = false ∧ E (.ref CS) none H) ∨ ∃ n : Nat, v1 = .int n ∧ 1 ≤ n ∧ n ≤ 10 ^ 30 ∧ inRange 0 (top30 - n) v2 = false ∧ E (.ref CN) none H)
theorem in_top {n : Nat} (h1 : 1 ≤ n) (h : n ≤ 10 ^ 30) : inRange 1 top30 (.int (n : Int)) = true := by
  show (decide (1 ≤ (n : Int)) && decide ((n : Int) ≤ top30)) = true
  have tt : top30 = 1000000000000000000000000000000 := rfl
  rw [decide_eq_true (by omega), decide_eq_true (by omega)]
  rfl
theorem okX_append_sums {f g1 g2 g3 : Addr} {fd d1 d2 d3 : FuncData} {t : Tok} (F : Fun K "append_sums" "append_sums" sAppendSums f fd) (GXCheckSize : FnOk P w K mg base (L2.CX P w) 3 g1 d1 ["size"] (spCheckSizeX K CS)) (ACheckSize : At K mg "check_size" g1 d1 ["size"])
    (GXCheckNumberBetween : FnOk P w K mg base (L2.CX P w) 3 g2 d2 ["number", "least", "most"] (spCheckBetweenX K CN)) (ACheckNumberBetween : At K mg "check_number_between" g2 d2 ["number", "least", "most"])
    (GMadeSums : FnOk P w K mg base CX0 7 g3 d3 ["size"] spMade) (AMadeSums : At K mg "_made_sums" g3 d3 ["size"]) (g_MOST_ENTRIES : mg "MOST_ENTRIES" = some (.int 1000000000000000000000000000000 t)) : FnOk P w K mg base (L2.CX P w) 8 f fd ["size", "number"] (spAppendX K CS CN) := by
  refine F.okX scAppendSums (fun vs H Q E h => ?_) (fun cdv A outer s H vs Q E hr h => ?_)
  · obtain ⟨_, _, _, _, rfl, _⟩ := h
    rfl
  obtain ⟨v1, v2, t1, t2, rfl, h1, h2, q⟩ := h
  refine ⟨_, (pss_cons (ps_expr (pe_callS GXCheckSize (hr.mono (by decide)) rfl ACheckSize.m ACheckSize.kp ACheckSize.b (fun σ => passAt (takes_of rfl rfl rfl rfl) σ) (pa_cons (pv 0) pa_nil)))
    (pss_cons (ps_expr (pe_callS GXCheckNumberBetween (hr.mono (by decide)) rfl ACheckNumberBetween.m ACheckNumberBetween.kp ACheckNumberBetween.b (fun σ => passAt (takes_of rfl rfl rfl rfl) σ) (pa_cons (pv 1) (pa_cons pe_int (pa_cons (pe_op op_sub (pe_glob (v := .int 1000000000000000000000000000000) rfl g_MOST_ENTRIES ⟨_, rfl⟩) (pv 0)) pa_nil)))))
    (pss_one (ps_ret (pe_op op_sub (pe_call GMadeSums (hr.mono (by decide)) rfl AMadeSums.m AMadeSums.kp AMadeSums.b .nil pass0 (pa_cons (pe_op op_add (pv 0) (pv 1)) pa_nil)) (pe_call GMadeSums (hr.mono (by decide)) rfl AMadeSums.m AMadeSums.kp AMadeSums.b .nil pass0 (pa_cons (pv 0) pa_nil))))))), ?_⟩
  rcases q with ⟨e, q⟩ | ⟨n, rfl, n1, n30, e2, q⟩
  · exact ⟨_, rfl, v1, t1, rfl, h1, .inr ⟨e, q⟩⟩
  · refine ⟨_, rfl, _, t1, rfl, h1, .inl ⟨in_top n1 n30, ?_⟩⟩
    have tt : top30 = 1000000000000000000000000000000 := rfl
    refine ⟨_, rfl, _, rfl, _, _, rfl, rfl, v2, t2, 0, top30 - n, rfl, h2, by decide, Nat.lt_of_le_of_lt (show (top30 - (n : Int)).natAbs ≤ 10 ^ 30 by omega) (by decide), .inr ⟨e2, q⟩⟩
/-- wrong ends of a stretch -/
def spStretchX (K : PySem.W.Frag) (CS : Addr) : Sp := fun vs H Q E => ∃ (v1 v2 : V) (t1 t2 : String), vs = [v1, v2] ∧ Pl K H v1 t1 ∧ Pl K H v2 t2 ∧ E (.ref CS) none H ∧
  (inRange 1 top30 v1 = false ∨ (inRange 1 top30 v1 = true ∧ inRange 1 top30 v2 = false) ∨ ∃ l h : Nat, v1 = .int l ∧ v2 = .int h ∧ 1 ≤ h ∧ h < l ∧ l ≤ 10 ^ 30)
theorem okX_check_stretch {f g1 : Addr} {fd d1 : FuncData} (F : Fun K "_check_stretch" "_check_stretch" sCheckStretch f fd) (XInvalidSize : XF K mg "InvalidSize" CInvalidSize) (GXCheckSize : FnOk P w K mg base (L2.CX P w) 3 g1 d1 ["size"] (spCheckSizeX K CInvalidSize)) (ACheckSize : At K mg "check_size" g1 d1 ["size"]) : FnOk P w K mg base (L2.CX P w) 4 f fd ["low", "high"] (spStretchX K CInvalidSize) := by
  refine F.okX scCheckStretch (fun vs H Q E h => ?_) (fun cdv A outer s H vs Q E hr h => ?_)
  · obtain ⟨_, _, _, _, rfl, _⟩ := h
    rfl
  obtain ⟨v1, v2, t1, t2, rfl, h1, h2, q, c⟩ := h
  refine ⟨_, (pss_cons (ps_expr (pe_callS GXCheckSize (hr.mono (by decide)) rfl ACheckSize.m ACheckSize.kp ACheckSize.b (fun σ => passAt (takes_of rfl rfl rfl rfl) σ) (pa_cons (pv 0) pa_nil)))
    (pss_cons (ps_expr (pe_callS GXCheckSize (hr.mono (by decide)) rfl ACheckSize.m ACheckSize.kp ACheckSize.b (fun σ => passAt (takes_of rfl rfl rfl rfl) σ) (pa_cons (pv 1) pa_nil)))
    (pss_one (ps_if (pt_cmpR op_gt (pv 0) (pv 1) (nomark _))
    (pss_one (ps_raise rfl (takes_of rfl rfl rfl rfl) (pmk_own PySem.F.excBase_ValueError XInvalidSize.q XInvalidSize.g XInvalidSize.k (raises_own XInvalidSize.b XInvalidSize.t) rfl)))
    pss_nil)))), ?_⟩
  rcases c with e | ⟨e, e2⟩ | ⟨l, h, rfl, rfl, a1, a2, a3⟩
  · exact ⟨_, rfl, v1, t1, rfl, h1, .inr ⟨e, q⟩⟩
  · exact ⟨_, rfl, v1, t1, rfl, h1, .inl ⟨e, _, rfl, v2, t2, rfl, h2, .inr ⟨e2, q⟩⟩⟩
  · refine ⟨_, rfl, _, t1, rfl, h1, .inl ⟨in_top (by omega) a3, _, rfl, _, t2, rfl, h2, .inl ⟨in_top a1 (by omega), ?_⟩⟩⟩
    refine ⟨_, rfl, _, rfl, _, _, rfl, rfl, true, congrArg V.bl (decide_eq_true (by omega)), q⟩
end
end LT

namespace LT
open PySem PySem.Spec PyProof.Rows L2
section
variable {P : Program} {w : World} {K : PySem.W.Frag} {mg : Str → Option Value} {base : Heap} {CS CN : Addr}
theorem okX_roots_total {f g1 g2 : Addr} {fd d1 d2 : FuncData} (F : Fun K "roots_total" "roots_total" sRootsTotal f fd) (GXCheckStretch : FnOk P w K mg base (L2.CX P w) 4 g1 d1 ["low", "high"] (spStretchX K CS)) (ACheckStretch : At K mg "_check_stretch" g1 d1 ["low", "high"])
    (GRootsAlong : FnOk P w K mg base CX0 2 g2 d2 ["first", "step", "number"] spAlong) (ARootsAlong : At K mg "_roots_along" g2 d2 ["first", "step", "number"]) : FnOk P w K mg base (L2.CX P w) 5 f fd ["low", "high"] (spStretchX K CS) := by
  refine F.okX scRootsTotal (fun vs H Q E h => ?_) (fun cdv A outer s H vs Q E hr h => ?_)
  · obtain ⟨_, _, _, _, rfl, _⟩ := h
    rfl
  obtain ⟨v1, v2, t1, t2, rfl, q⟩ := h
  refine ⟨_, (pss_cons (ps_expr (pe_callS GXCheckStretch (hr.mono (by decide)) rfl ACheckStretch.m ACheckStretch.kp ACheckStretch.b (fun σ => passAt (takes_of rfl rfl rfl rfl) σ) (pa_cons (pv 0) (pa_cons (pv 1) pa_nil))))
    (pss_one (ps_ret (pe_call GRootsAlong (hr.mono (by decide)) rfl ARootsAlong.m ARootsAlong.kp ARootsAlong.b .nil pass0 (pa_cons (pv 0) (pa_cons pe_int (pa_cons (pe_op op_add (pe_op op_sub (pv 1) (pv 0)) pe_int) pa_nil))))))), ?_⟩
  exact ⟨_, rfl, _, rfl, v1, v2, t1, t2, rfl, q⟩
theorem okX_cheapest {f g1 g2 : Addr} {fd d1 d2 : FuncData} (F : Fun K "cheapest" "cheapest" sCheapest f fd) (GXCheckStretch : FnOk P w K mg base (L2.CX P w) 4 g1 d1 ["low", "high"] (spStretchX K CS)) (ACheckStretch : At K mg "_check_stretch" g1 d1 ["low", "high"])
    (GRootSums : FnOk P w K mg base CX0 6 g2 d2 ["size"] spRootSums) (ARootSums : At K mg "root_sums" g2 d2 ["size"]) (z_min : mg "min" = none) : FnOk P w K mg base (L2.CX P w) 7 f fd ["low", "high"] (spStretchX K CS) := by
  refine F.okX scCheapest (fun vs H Q E h => ?_) (fun cdv A outer s H vs Q E hr h => ?_)
  · obtain ⟨_, _, _, _, rfl, _⟩ := h
    rfl
  obtain ⟨v1, v2, t1, t2, rfl, q⟩ := h
  refine ⟨_, (pss_cons (ps_expr (pe_callS GXCheckStretch (hr.mono (by decide)) rfl ACheckStretch.m ACheckStretch.kp ACheckStretch.b (fun σ => passAt (takes_of rfl rfl rfl rfl) σ) (pa_cons (pv 0) (pa_cons (pv 1) pa_nil))))
    (pss_cons (ps_set (i := 2) scCheapest.nd rfl (Or.inl rfl) (pe_tup (pa_cons (pe_call GRootSums (hr.mono (by decide)) rfl ARootSums.m ARootSums.kp ARootSums.b .nil pass0 (pa_cons (pv 0) pa_nil)) (pa_cons (pv 0) pa_nil))))
    (pss_cons (ps_set (i := 3) scCheapest.nd rfl (Or.inl rfl) pe_int)
    (pss_cons (ps_while PassesOwn.leaving (pt_cmpR op_le (pv 3) (pv 1) (nomark _))
    (pss_cons (ps_set (i := 4) scCheapest.nd rfl (Or.inl rfl) (pe_op op_add (pv 0) (pe_op op_modN (pe_un un_neg (pv 0)) (pv 3))))
    (pss_cons (ps_if (pt_cmpR op_le (pv 4) (pv 1) (nomark _))
    (pss_one (ps_set (i := 2) scCheapest.nd rfl (Or.inl rfl) (pe_callB (call_min2D rfl (units1 hr)) (by rfl) z_min (by decide +kernel) (pa_cons (pv 2) (pa_cons (pe_tup (pa_cons (pe_call GRootSums (hr.mono (by decide)) rfl ARootSums.m ARootSums.kp ARootSums.b .nil pass0 (pa_cons (pv 4) pa_nil)) (pa_cons (pv 4) pa_nil))) pa_nil)))))
    pss_nil)
    (pss_one (ps_set (i := 3) scCheapest.nd rfl (Or.inl rfl) (pe_op op_mul (pv 3) pe_int))))))
    (pss_one (ps_ret (pv 2))))))), ?_⟩
  exact ⟨_, rfl, _, rfl, v1, v2, t1, t2, rfl, q⟩
theorem okX_costliest {f g1 g2 : Addr} {fd d1 d2 : FuncData} (F : Fun K "costliest" "costliest" sCostliest f fd) (GXCheckStretch : FnOk P w K mg base (L2.CX P w) 4 g1 d1 ["low", "high"] (spStretchX K CS)) (ACheckStretch : At K mg "_check_stretch" g1 d1 ["low", "high"])
    (GRootSums : FnOk P w K mg base CX0 6 g2 d2 ["size"] spRootSums) (ARootSums : At K mg "root_sums" g2 d2 ["size"]) : FnOk P w K mg base (L2.CX P w) 7 f fd ["low", "high"] (spStretchX K CS) := by
  refine F.okX scCostliest (fun vs H Q E h => ?_) (fun cdv A outer s H vs Q E hr h => ?_)
  · obtain ⟨_, _, _, _, rfl, _⟩ := h
    rfl
  obtain ⟨v1, v2, t1, t2, rfl, q⟩ := h
  refine ⟨_, (pss_cons (ps_expr (pe_callS GXCheckStretch (hr.mono (by decide)) rfl ACheckStretch.m ACheckStretch.kp ACheckStretch.b (fun σ => passAt (takes_of rfl rfl rfl rfl) σ) (pa_cons (pv 0) (pa_cons (pv 1) pa_nil))))
    (pss_cons (ps_set (i := 2) scCostliest.nd rfl (Or.inl rfl) (pv 0))
    (pss_cons (ps_while PassesOwn.leaving (pt_cmpR op_le (pe_op op_or (pv 2) (pe_op op_add (pv 2) pe_int)) (pv 1) (nomark _))
    (pss_one (ps_set (i := 2) scCostliest.nd rfl (Or.inl rfl) (pe_op op_or (pv 2) (pe_op op_add (pv 2) pe_int)))))
    (pss_one (ps_ret (pe_tup (pa_cons (pe_call GRootSums (hr.mono (by decide)) rfl ARootSums.m ARootSums.kp ARootSums.b .nil pass0 (pa_cons (pv 2) pa_nil)) (pa_cons (pv 2) pa_nil)))))))), ?_⟩
  exact ⟨_, rfl, _, rfl, v1, v2, t1, t2, rfl, q⟩
/-- a wrong size, or a wrong step, or a wrong number of steps -/
def spStepsX (K : PySem.W.Frag) (CS CN : Addr) : Sp := fun vs H Q E => ∃ (v1 v2 v3 : V) (t1 t2 t3 : String), vs = [v1, v2, v3] ∧ Pl K H v1 t1 ∧ Pl K H v2 t2 ∧ Pl K H v3 t3 ∧
  ((inRange 1 top30 v1 = false ∧ E (.ref CS) none H) ∨ ∃ n : Nat, v1 = .int n ∧ 1 ≤ n ∧ n ≤ 10 ^ 30 ∧ ((fromR 1 v2 = false ∧ E (.ref CN) none H) ∨ ∃ st : Nat, v2 = .int st ∧ 1 ≤ st ∧ st < 2 ^ 300 ∧ inRange 0 ((top30 - n) / st) v3 = false ∧ E (.ref CN) none H))
theorem okX_roots_by_steps {f g1 g2 g3 g4 : Addr} {fd d1 d2 d3 d4 : FuncData} {t : Tok} (F : Fun K "roots_by_steps" "roots_by_steps" sRootsBySteps f fd) (GXCheckSize : FnOk P w K mg base (L2.CX P w) 3 g1 d1 ["size"] (spCheckSizeX K CS)) (ACheckSize : At K mg "check_size" g1 d1 ["size"])
    (GXCheckNumberFrom : FnOk P w K mg base (L2.CX P w) 2 g2 d2 ["number", "least"] (spCheckFromX K CN)) (ACheckNumberFrom : At K mg "check_number_from" g2 d2 ["number", "least"])
    (GXCheckNumberBetween : FnOk P w K mg base (L2.CX P w) 3 g3 d3 ["number", "least", "most"] (spCheckBetweenX K CN)) (ACheckNumberBetween : At K mg "check_number_between" g3 d3 ["number", "least", "most"])
    (GRootsAlong : FnOk P w K mg base CX0 2 g4 d4 ["first", "step", "number"] spAlong) (ARootsAlong : At K mg "_roots_along" g4 d4 ["first", "step", "number"]) (g_MOST_ENTRIES : mg "MOST_ENTRIES" = some (.int 1000000000000000000000000000000 t)) : FnOk P w K mg base (L2.CX P w) 4 f fd ["size", "step", "number"] (spStepsX K CS CN) := by
  refine F.okX scRootsBySteps (fun vs H Q E h => ?_) (fun cdv A outer s H vs Q E hr h => ?_)
  · obtain ⟨_, _, _, _, _, _, rfl, _⟩ := h
    rfl
  obtain ⟨v1, v2, v3, t1, t2, t3, rfl, h1, h2, h3, q⟩ := h
  refine ⟨_, (pss_cons (ps_expr (pe_callS GXCheckSize (hr.mono (by decide)) rfl ACheckSize.m ACheckSize.kp ACheckSize.b (fun σ => passAt (takes_of rfl rfl rfl rfl) σ) (pa_cons (pv 0) pa_nil)))
    (pss_cons (ps_expr (pe_callS GXCheckNumberFrom (hr.mono (by decide)) rfl ACheckNumberFrom.m ACheckNumberFrom.kp ACheckNumberFrom.b (fun σ => passAt (takes_of rfl rfl rfl rfl) σ) (pa_cons (pv 1) (pa_cons pe_int pa_nil))))
    (pss_cons (ps_expr (pe_callS GXCheckNumberBetween (hr.mono (by decide)) rfl ACheckNumberBetween.m ACheckNumberBetween.kp ACheckNumberBetween.b (fun σ => passAt (takes_of rfl rfl rfl rfl) σ) (pa_cons (pv 2) (pa_cons pe_int (pa_cons (pe_op op_fdivW (pe_op op_sub (pe_glob (v := .int 1000000000000000000000000000000) rfl g_MOST_ENTRIES ⟨_, rfl⟩) (pv 0)) (pv 1)) pa_nil)))))
    (pss_one (ps_ret (pe_call GRootsAlong (hr.mono (by decide)) rfl ARootsAlong.m ARootsAlong.kp ARootsAlong.b .nil pass0 (pa_cons (pe_op op_add (pv 0) (pv 1)) (pa_cons (pv 1) (pa_cons (pv 2) pa_nil))))))))), ?_⟩
  have tt : top30 = 1000000000000000000000000000000 := rfl
  rcases q with ⟨e, q⟩ | ⟨n, rfl, n1, n30, ⟨e, q⟩ | ⟨st, rfl, s1, s3, e, q⟩⟩
  · exact ⟨_, rfl, v1, t1, rfl, h1, .inr ⟨e, q⟩⟩
  · exact ⟨_, rfl, _, t1, rfl, h1, .inl ⟨in_top n1 n30, _, rfl, v2, t2, 1, rfl, h2, by decide, .inr ⟨e, q⟩⟩⟩
  · refine ⟨_, rfl, _, t1, rfl, h1, .inl ⟨in_top n1 n30, _, rfl, _, t2, 1, rfl, h2, by decide, .inl ⟨decide_eq_true (by omega), ?_⟩⟩⟩
    have dn : ((top30 - (n : Int)) / (st : Int)).natAbs < 10 ^ 66 := by
      rw [show top30 - (n : Int) = ((10 ^ 30 - n : Nat) : Int) by omega, ← Int.natCast_ediv]
      exact Nat.lt_of_le_of_lt (Nat.le_trans (Nat.div_le_self _ _) (Nat.sub_le _ _)) (by decide)
    refine ⟨_, rfl, _, rfl, _, _, rfl, rfl, _, rfl, _, _, rfl, rfl, wide_div (b := 300) (by omega) s3 (by decide) (by decide), v3, t3, 0, (top30 - n) / st, rfl, h3, by decide, dn, .inr ⟨e, q⟩⟩
end
end LT

namespace LT
open PySem PySem.Spec PyProof.Rows L2
/-- which error a call ends with (its class), or none -/
def Out26 (CS CN : Addr) (door : Nat) (v1 v2 v3 : V) (r : Option Addr) : Prop :=
  (inRange 1 top30 v1 = false ∧ r = some CS) ∨
  (2 ≤ door ∧ door ≤ 4 ∧ r = some CS ∧ ((inRange 1 top30 v1 = true ∧ inRange 1 top30 v2 = false) ∨ ∃ l h : Nat, v1 = .int l ∧ v2 = .int h ∧ 1 ≤ h ∧ h < l ∧ l ≤ 10 ^ 30)) ∨
  (door = 0 ∧ r = some CN ∧ ∃ n : Nat, v1 = .int n ∧ 1 ≤ n ∧ n ≤ 10 ^ 30 ∧ inRange 0 (top30 - n) v2 = false) ∨
  (door = 1 ∧ r = some CN ∧ ∃ n : Nat, v1 = .int n ∧ 1 ≤ n ∧ n ≤ 10 ^ 30 ∧ (fromR 1 v2 = false ∨ ∃ st : Nat, v2 = .int st ∧ 1 ≤ st ∧ st < 2 ^ 300 ∧ inRange 0 ((top30 - n) / st) v3 = false)) ∨
  (r = none ∧ ∃ n : Nat, v1 = .int n ∧ 1 ≤ n ∧ n ≤ 10 ^ 30 ∧
    ((door = 0 ∧ ∃ m : Nat, v2 = .int m ∧ n + m ≤ 10 ^ 30) ∨ (door = 1 ∧ ∃ st m : Nat, v2 = .int st ∧ v3 = .int m ∧ 1 ≤ st ∧ st < 2 ^ 101 ∧ n + st * m ≤ 10 ^ 30) ∨ (door = 1 ∧ ∃ st : Nat, v2 = .int st ∧ v3 = .int 0 ∧ 1 ≤ st ∧ st < 2 ^ 300) ∨
     (2 ≤ door ∧ door ≤ 4 ∧ ∃ h : Nat, v2 = .int h ∧ n ≤ h ∧ h ≤ 10 ^ 30) ∨ door = 5))
def spCalled (K : PySem.W.Frag) (CS CN : Addr) : Sp := fun vs H Q E => ∃ (door : Nat) (v1 v2 v3 : V) (t1 t2 t3 : String) (r : Option Addr), vs = [.int door, v1, v2, v3] ∧ door ≤ 5 ∧ Pl K H v1 t1 ∧ Pl K H v2 t2 ∧ Pl K H v3 t3 ∧ Out26 CS CN door v1 v2 v3 r ∧
  ((r = none ∧ ∀ H', Same H H' → Q .non H') ∨ ∃ C, r = some C ∧ E (.ref C) none H)
section
variable {P : Program} {w : World} {K : PySem.W.Frag} {mg : Str → Option Value} {base : Heap} {CS CN : Addr}
theorem okX_law_called {f g0 g1 g2 g3 g4 g5 : Addr} {fd d0 d1 d2 d3 d4 d5 : FuncData} (F : Fun K "_law_called" "_law_called" sLawCalled f fd)
    (GXAppendSums : FnOk P w K mg base (L2.CX P w) 8 g0 d0 ["size", "number"] (fun vs H Q E => spAppend vs H Q E ∨ spAppendX K CS CN vs H Q E)) (AAppendSums : At K mg "append_sums" g0 d0 ["size", "number"])
    (GXRootsBySteps : FnOk P w K mg base (L2.CX P w) 4 g1 d1 ["size", "step", "number"] (fun vs H Q E => (spSteps vs H Q E ∨ spSteps0 vs H Q E) ∨ spStepsX K CS CN vs H Q E)) (ARootsBySteps : At K mg "roots_by_steps" g1 d1 ["size", "step", "number"])
    (GXRootsTotal : FnOk P w K mg base (L2.CX P w) 5 g2 d2 ["low", "high"] (fun vs H Q E => spTotal vs H Q E ∨ spStretchX K CS vs H Q E)) (ARootsTotal : At K mg "roots_total" g2 d2 ["low", "high"])
    (GXCheapest : FnOk P w K mg base (L2.CX P w) 7 g3 d3 ["low", "high"] (fun vs H Q E => spCheapest vs H Q E ∨ spStretchX K CS vs H Q E)) (ACheapest : At K mg "cheapest" g3 d3 ["low", "high"])
    (GXCostliest : FnOk P w K mg base (L2.CX P w) 7 g4 d4 ["low", "high"] (fun vs H Q E => spCostliest vs H Q E ∨ spStretchX K CS vs H Q E)) (ACostliest : At K mg "costliest" g4 d4 ["low", "high"])
    (GXRootSums : FnOk P w K mg base (L2.CX P w) 6 g5 d5 ["size"] (fun vs H Q E => spRootSums vs H Q E ∨ spSizeX K CS vs H Q E)) (ARootSums : At K mg "root_sums" g5 d5 ["size"]) :
    FnOk P w K mg base (L2.CX P w) 9 f fd ["door", "one", "two", "three"] (spCalled K CS CN) := by
  refine F.okX scLawCalled (fun vs H Q E h => ?_) (fun cdv A outer s H vs Q E hr h => ?_)
  · obtain ⟨_, _, _, _, _, _, _, _, rfl, _⟩ := h
    rfl
  obtain ⟨door, v1, v2, v3, t1, t2, t3, r, rfl, hw, p1, p2, p3, ho, q⟩ := h
  refine ⟨_, (pss_one (ps_if (pt_cmpR op_eq (pv 0) pe_int (nomark _))
    (pss_one (ps_expr (pe_callS GXAppendSums (hr.mono (by decide)) rfl AAppendSums.m AAppendSums.kp AAppendSums.b (fun σ => passAt (takes_of rfl rfl rfl rfl) σ) (pa_cons (pv 1) (pa_cons (pv 2) pa_nil)))))
    (pss_one (ps_if (pt_cmpR op_eq (pv 0) pe_int (nomark _))
    (pss_one (ps_expr (pe_callS GXRootsBySteps (hr.mono (by decide)) rfl ARootsBySteps.m ARootsBySteps.kp ARootsBySteps.b (fun σ => passAt (takes_of rfl rfl rfl rfl) σ) (pa_cons (pv 1) (pa_cons (pv 2) (pa_cons (pv 3) pa_nil))))))
    (pss_one (ps_if (pt_cmpR op_eq (pv 0) pe_int (nomark _))
    (pss_one (ps_expr (pe_callS GXRootsTotal (hr.mono (by decide)) rfl ARootsTotal.m ARootsTotal.kp ARootsTotal.b (fun σ => passAt (takes_of rfl rfl rfl rfl) σ) (pa_cons (pv 1) (pa_cons (pv 2) pa_nil)))))
    (pss_one (ps_if (pt_cmpR op_eq (pv 0) pe_int (nomark _))
    (pss_one (ps_expr (pe_callS GXCheapest (hr.mono (by decide)) rfl ACheapest.m ACheapest.kp ACheapest.b (fun σ => passAt (takes_of rfl rfl rfl rfl) σ) (pa_cons (pv 1) (pa_cons (pv 2) pa_nil)))))
    (pss_one (ps_if (pt_cmpR op_eq (pv 0) pe_int (nomark _))
    (pss_one (ps_expr (pe_callS GXCostliest (hr.mono (by decide)) rfl ACostliest.m ACostliest.kp ACostliest.b (fun σ => passAt (takes_of rfl rfl rfl rfl) σ) (pa_cons (pv 1) (pa_cons (pv 2) pa_nil)))))
    (pss_one (ps_expr (pe_callS GXRootSums (hr.mono (by decide)) rfl ARootSums.m ARootSums.kp ARootSums.b (fun σ => passAt (takes_of rfl rfl rfl rfl) σ) (pa_cons (pv 1) pa_nil)))))))))))))), ?_⟩
  have qE : ∀ {C : Addr}, r = some C → E (.ref C) none H := fun {C} z => by
    rcases q with ⟨z2, _⟩ | ⟨C2, z2, q2⟩
    · rw [z] at z2
      cases z2
    · rw [z] at z2
      cases z2
      exact q2
  have qN : r = none → ∀ H', Same H H' → Q .non H' := fun z => by
    rcases q with ⟨_, q2⟩ | ⟨C2, z2, _⟩
    · exact q2
    · rw [z] at z2
      cases z2
  have w6 : door = 0 ∨ door = 1 ∨ door = 2 ∨ door = 3 ∨ door = 4 ∨ door = 5 := by omega
  clear q
  rcases w6 with rfl | rfl | rfl | rfl | rfl | rfl
  · rcases ho with ⟨e, z⟩ | ⟨a1, a2, z, c⟩ | ⟨a, z, n, rfl, n1, n30, e⟩ | ⟨a, z, n, rfl, n1, n30, c⟩ | ⟨z, n, rfl, n1, n30, c⟩
    · exact ⟨_, rfl, rfl, true, rfl, _, rfl, _, rfl, .inr ⟨v1, v2, t1, t2, rfl, p1, p2, .inl ⟨e, qE z⟩⟩⟩
    · omega
    · exact ⟨_, rfl, rfl, true, rfl, _, rfl, _, rfl, .inr ⟨_, v2, t1, t2, rfl, p1, p2, .inr ⟨n, rfl, n1, n30, e, qE z⟩⟩⟩
    · omega
    · rcases c with ⟨d, m, rfl, b⟩ | ⟨d, st, m, rfl, rfl, b1, b2, b3⟩ | ⟨d, st, rfl, rfl, b1, b2⟩ | ⟨d1, d2, h, rfl, b1, b2⟩ | d
      · exact ⟨_, rfl, rfl, true, rfl, _, rfl, _, rfl, .inl ⟨n, m, rfl, n1, b, fun H' s' => qN z H' s'⟩⟩
      · omega
      · omega
      · omega
      · omega
  · rcases ho with ⟨e, z⟩ | ⟨a1, a2, z, c⟩ | ⟨a, z, n, rfl, n1, n30, e⟩ | ⟨a, z, n, rfl, n1, n30, c⟩ | ⟨z, n, rfl, n1, n30, c⟩
    · exact ⟨_, rfl, rfl, false, rfl, _, rfl, rfl, true, rfl, _, rfl, _, rfl, _, rfl, .inr ⟨v1, v2, v3, t1, t2, t3, rfl, p1, p2, p3, .inl ⟨e, qE z⟩⟩⟩
    · omega
    · omega
    · refine ⟨_, rfl, rfl, false, rfl, _, rfl, rfl, true, rfl, _, rfl, _, rfl, _, rfl, .inr ⟨_, v2, v3, t1, t2, t3, rfl, p1, p2, p3, .inr ⟨n, rfl, n1, n30, ?_⟩⟩⟩
      rcases c with e | ⟨st, e0, s1, s3, e⟩
      · exact .inl ⟨e, qE z⟩
      · exact .inr ⟨st, e0, s1, s3, e, qE z⟩
    · rcases c with ⟨d, m, rfl, b⟩ | ⟨d, st, m, rfl, rfl, b1, b2, b3⟩ | ⟨d, st, rfl, rfl, b1, b2⟩ | ⟨d1, d2, h, rfl, b1, b2⟩ | d
      · omega
      · exact ⟨_, rfl, rfl, false, rfl, _, rfl, rfl, true, rfl, _, rfl, _, rfl, _, rfl, .inl (.inl ⟨n, st, m, rfl, n1, b1, b2, b3, qN z H (Same.refl H)⟩)⟩
      · exact ⟨_, rfl, rfl, false, rfl, _, rfl, rfl, true, rfl, _, rfl, _, rfl, _, rfl, .inl (.inr ⟨n, st, rfl, n1, n30, b1, b2, qN z H (Same.refl H)⟩)⟩
      · omega
      · omega
  · rcases ho with ⟨e, z⟩ | ⟨a1, a2, z, c⟩ | ⟨a, z, n, rfl, n1, n30, e⟩ | ⟨a, z, n, rfl, n1, n30, c⟩ | ⟨z, n, rfl, n1, n30, c⟩
    · exact ⟨_, rfl, rfl, false, rfl, _, rfl, rfl, false, rfl, _, rfl, rfl, true, rfl, _, rfl, _, rfl, .inr ⟨v1, v2, t1, t2, rfl, p1, p2, qE z, .inl e⟩⟩
    · exact ⟨_, rfl, rfl, false, rfl, _, rfl, rfl, false, rfl, _, rfl, rfl, true, rfl, _, rfl, _, rfl, .inr ⟨v1, v2, t1, t2, rfl, p1, p2, qE z, .inr c⟩⟩
    · omega
    · omega
    · rcases c with ⟨d, m, rfl, b⟩ | ⟨d, st, m, rfl, rfl, b1, b2, b3⟩ | ⟨d, st, rfl, rfl, b1, b2⟩ | ⟨d1, d2, h, rfl, b1, b2⟩ | d
      · omega
      · omega
      · omega
      · exact ⟨_, rfl, rfl, false, rfl, _, rfl, rfl, false, rfl, _, rfl, rfl, true, rfl, _, rfl, _, rfl, .inl ⟨n, h, rfl, n1, b1, b2, qN z H (Same.refl H)⟩⟩
      · omega
  · rcases ho with ⟨e, z⟩ | ⟨a1, a2, z, c⟩ | ⟨a, z, n, rfl, n1, n30, e⟩ | ⟨a, z, n, rfl, n1, n30, c⟩ | ⟨z, n, rfl, n1, n30, c⟩
    · exact ⟨_, rfl, rfl, false, rfl, _, rfl, rfl, false, rfl, _, rfl, rfl, false, rfl, _, rfl, rfl, true, rfl, _, rfl, _, rfl, .inr ⟨v1, v2, t1, t2, rfl, p1, p2, qE z, .inl e⟩⟩
    · exact ⟨_, rfl, rfl, false, rfl, _, rfl, rfl, false, rfl, _, rfl, rfl, false, rfl, _, rfl, rfl, true, rfl, _, rfl, _, rfl, .inr ⟨v1, v2, t1, t2, rfl, p1, p2, qE z, .inr c⟩⟩
    · omega
    · omega
    · rcases c with ⟨d, m, rfl, b⟩ | ⟨d, st, m, rfl, rfl, b1, b2, b3⟩ | ⟨d, st, rfl, rfl, b1, b2⟩ | ⟨d1, d2, h, rfl, b1, b2⟩ | d
      · omega
      · omega
      · omega
      · exact ⟨_, rfl, rfl, false, rfl, _, rfl, rfl, false, rfl, _, rfl, rfl, false, rfl, _, rfl, rfl, true, rfl, _, rfl, _, rfl, .inl ⟨n, h, rfl, n1, b1, b2, fun H' p c s s' np hp hl => qN z H' s'⟩⟩
      · omega
  · rcases ho with ⟨e, z⟩ | ⟨a1, a2, z, c⟩ | ⟨a, z, n, rfl, n1, n30, e⟩ | ⟨a, z, n, rfl, n1, n30, c⟩ | ⟨z, n, rfl, n1, n30, c⟩
    · exact ⟨_, rfl, rfl, false, rfl, _, rfl, rfl, false, rfl, _, rfl, rfl, false, rfl, _, rfl, rfl, false, rfl, _, rfl, rfl, true, rfl, _, rfl, _, rfl, .inr ⟨v1, v2, t1, t2, rfl, p1, p2, qE z, .inl e⟩⟩
    · exact ⟨_, rfl, rfl, false, rfl, _, rfl, rfl, false, rfl, _, rfl, rfl, false, rfl, _, rfl, rfl, false, rfl, _, rfl, rfl, true, rfl, _, rfl, _, rfl, .inr ⟨v1, v2, t1, t2, rfl, p1, p2, qE z, .inr c⟩⟩
    · omega
    · omega
    · rcases c with ⟨d, m, rfl, b⟩ | ⟨d, st, m, rfl, rfl, b1, b2, b3⟩ | ⟨d, st, rfl, rfl, b1, b2⟩ | ⟨d1, d2, h, rfl, b1, b2⟩ | d
      · omega
      · omega
      · omega
      · exact ⟨_, rfl, rfl, false, rfl, _, rfl, rfl, false, rfl, _, rfl, rfl, false, rfl, _, rfl, rfl, false, rfl, _, rfl, rfl, true, rfl, _, rfl, _, rfl, .inl ⟨n, h, rfl, n1, b1, b2, fun H' p c s s' np hp hl => qN z H' s'⟩⟩
      · omega
  · rcases ho with ⟨e, z⟩ | ⟨a1, a2, z, c⟩ | ⟨a, z, n, rfl, n1, n30, e⟩ | ⟨a, z, n, rfl, n1, n30, c⟩ | ⟨z, n, rfl, n1, n30, c⟩
    · exact ⟨_, rfl, rfl, false, rfl, _, rfl, rfl, false, rfl, _, rfl, rfl, false, rfl, _, rfl, rfl, false, rfl, _, rfl, rfl, false, rfl, _, rfl, .inr ⟨v1, t1, rfl, p1, e, qE z⟩⟩
    · omega
    · omega
    · omega
    · rcases c with ⟨d, m, rfl, b⟩ | ⟨d, st, m, rfl, rfl, b1, b2, b3⟩ | ⟨d, st, rfl, rfl, b1, b2⟩ | ⟨d1, d2, h, rfl, b1, b2⟩ | d
      · omega
      · omega
      · omega
      · omega
      · exact ⟨_, rfl, rfl, false, rfl, _, rfl, rfl, false, rfl, _, rfl, rfl, false, rfl, _, rfl, rfl, false, rfl, _, rfl, rfl, false, rfl, _, rfl, .inl ⟨n, rfl, n1, n30, fun H' s' => qN z H' s'⟩⟩
end
end LT

namespace LT
open PySem PySem.Spec PyProof.Rows L2
/-! ### promises of defs that show things: what is being shown around them is told to be nothing -/
structure GOk (P : Program) (w : World) (K : PySem.W.Frag) (mg : Str → Option Value) (base : Heap) (k : Nat) (f : Addr) (fd : FuncData) (ps : List Str) (sp : Sp) : Prop where
  len : ∀ vs H Q E, sp vs H Q E → vs.length = ps.length
  run : ∀ (A : Around) (outer : List Env) (s : Shared) (H : Hp) (args : Args) (us : List Value) (vs : List V) (Q : VK), A.guards = some [] → Room k A → Env0 P w K mg base A outer s H → BindsTo s fd args (ps.zip us) → Vals vs us → sp vs H Q E0 →
    codeAny (model P w) A (.call (.ref f) args) (CR CX0 outer P w H s Q E0) s
section
variable {P : Program} {w : World} {K : PySem.W.Frag} {mg : Str → Option Value} {base : Heap} {k : Nat} {f : Addr} {fd : FuncData} {ps : List Str} {sp : Sp}
theorem GOk.of (F : FnOk P w K mg base CX0 k f fd ps sp) : GOk P w K mg base k f fd ps sp := by
  refine ⟨F.len, ?_⟩
  intro A outer s H args us vs Q _
  exact F.run A outer s H args us vs Q E0
theorem GOk.mono {j : Nat} (F : GOk P w K mg base j f fd ps sp) (h : j ≤ k) : GOk P w K mg base k f fd ps sp := by
  refine ⟨F.len, ?_⟩
  intro A outer s H args us vs Q hg hr
  exact F.run A outer s H args us vs Q hg (hr.mono h)
/-- a def by its body, as Fun.ok -/
theorem okG {x qual : Str} {st : Stmt} {N : List Str} (F : Fun K x qual st f fd) (S : FnScope N ps (defScope st)) (len : ∀ vs H Q E, sp vs H Q E → vs.length = ps.length)
    (body : ∀ (cdv : Value) (A : Around) (outer : List Env) (s : Shared) (H : Hp) (vs : List V) (Q : VK), A.guards = some [] → Room k (A.deeper (envOfC qual (defScope st) s.heap.objs.size f cdv)) → sp vs H Q E0 →
      ∃ t, PSs (cxOf CX0 P w K mg base N qual (defScope st) f cdv A outer s H E0).nox (defBody st) t ∧ t { nx := fun _ H' => Q .non H', rt := Q } (start N vs) H) : GOk P w K mg base (k + 1) f fd ps sp := by
  obtain ⟨oc, od, kV, doc, pm, an, cdv, ct, osl, e, lk, hcd⟩ := F.ex
  subst e
  refine ⟨len, ?_⟩
  intro A outer s H args us vs Q hg hr ev hb rv hsp
  have nvs := len _ _ _ _ hsp
  have there : K.In s.heap := ev.mod.kin.keeps (fun b o q => (ev.bs b o q).1)
  have noLim : s.heap.NoLimit := ev.mod.nolimit.keeps (fun b o q => (ev.bs b o q).1)
  have kinds : ∀ y ∈ ps.zip us, (defScope st).names.lookup y.1 = some .local ∨ ((defScope st).names.lookup y.1 = some .cell ∧ ((cellsFrom (s.heap.objs.size + 1) (defScope st).names []).lookup y.1).isSome = true) := by
    intro y hy
    rcases S.par y.1 (List.of_mem_zip hy).1 with q | q
    · exact Or.inl q
    · exact Or.inr ⟨q, PySem.W.cellsFrom_some _ _ _ (Or.inl q)⟩
  apply codeAny_call_function hr.depth (there _ _ lk) rfl S.co S.gen rfl (PySem.W.codeRec_of there hcd)
  apply hb
  apply wpAny_newFunctionEnv_cells S.kind kinds
  intro env he s1 made
  subst he
  refine ⟨noLim.keeps made.toInCall.keep, codeAny_func ?_⟩
  obtain ⟨t, ht, hq⟩ := body cdv A outer s H vs Q hg (hr.deeper _) hsp
  have I : Inv (cxOf CX0 P w K mg base N qual (defScope st) f cdv A outer s H E0) [] (start N vs) H s1 := inv_start S hr.hd ev nvs rv made
  have ran := ht.nox.run [] s1 (start N vs) H _ I hq
  apply wpAny_mono ran
  · intro fl s' hs
    have fin : ∀ {σ' : L2.St} {H' : Hp} {v : V} {u : Value}, Inv (cxOf CX0 P w K mg base N qual (defScope st) f cdv A outer s H E0) [] σ' H' s' → RelV v u → Q v H' → CE outer P w H s Q u s' := by
      intro σ' H' v u J r q
      exact ⟨v, H', J.os, J.bare, J.base, J.hok, r, q⟩
    match fl, hs with
    | .ret u, ⟨v, σ', H', J, r, q⟩ => exact fin J r q
    | .next, ⟨σ', H', J, q⟩ => exact fin (v := V.non) (u := Value.none) J rfl q
    | .brk, ⟨_, _, _, q⟩ => exact False.elim q
    | .cont, ⟨_, _, _, q⟩ => exact False.elim q
  · intro e s' hs
    exact hs
end
section
variable {X : Cx} {k : Nat} {f : Addr} {fd : FuncData} {ps : List Str} {sp : Sp} {x : Str} {p pos : Pos} {e : Expr} {es : List Expr} {t : TA}
theorem runG {pins : List (Addr × Obj)} {σ : L2.St} {H : Hp} {s : Shared} {Q : VK} {us : List Value} {vs : List V} (F : GOk X.prog X.w X.K X.mg X.base k f fd ps sp) (hg : X.A.guards = some []) (hr : Room k X.A) (hb : Binds X.K fd ps [])
    (I : Inv X pins σ H s) (rv : Vals vs us) (h : sp vs H Q E0) : wpAny (model X.prog X.w) X.A (call (.ref f) us) (EP X pins σ Q) X.xe s := by
  have n : (us ++ []).length = ps.length := by
    rw [List.append_nil, ← rv.length]
    exact F.len _ _ _ _ h
  have b := hb s us I.kIn n
  rw [List.append_nil] at b
  apply wpAny_call
  apply codeAny_mono (F.run X.A X.stack s H ⟨us, []⟩ us vs Q hg hr I.env0 b rv h)
  intro res s' hq
  match res, hq with
  | .error _, hq => exact False.elim hq
  | .ok (.ret u), hq => exact I.after hq
  | .ok .next, hq => exact False.elim hq
  | .ok .brk, hq => exact False.elim hq
  | .ok .cont, hq => exact False.elim hq
theorem pe_callG (F : GOk X.prog X.w X.K X.mg X.base k f fd ps sp) (hgd : X.A.guards = some []) (hr : Room k X.A) (hg : Gl X x) (hm : X.mg x = some (.ref f)) (hk : PySem.W.keepIn X.K (.ref f) = true) (hb : Binds X.K fd ps [])
    (ha : PA X (e :: es) t) (hdb : (x == ("__debug__" : Str)) = false := by decide) (he : starEach (e :: es) X.env = (false, eval e X.env) :: starEach es X.env := by rfl) (hpl : (backTo pos (starEach es X.env)).any (·.1) = false := by rfl) :
    PE X (.Call (.Name x p) (e :: es) [] pos) (tCall sp [] E0 t) := by
  constructor
  intro pins s σ H Q I h
  apply wpAny_Call_Name_kw
  refine ld_glob I hg hm ?_ hdb
  apply PySem.W.callWith_K (h₀ := X.base) I.ok.mod.kin hk _ he hpl
  apply thn (ha.run pos pins s σ H _ I h)
  intro us s1 hh
  obtain ⟨vs, H1, I1, rv, q⟩ := hh
  rw [List.append_nil] at q
  exact ⟨I1.kIn, runG F hgd hr hb I1 rv q⟩
/-- repr of lists and tuples of plain data -/
theorem call_repr (hg : X.A.guards = some []) (hu : X.A.units + 65 < cLine) :
    CallR X (.builtin "repr") (fun xs H Q => ∃ y d, xs = [y] ∧ Dp X.K H y d ∧ PyProof.Rows.isDisplay d = true ∧ SeqAt.shaped d = true ∧ d.showable = true ∧ d.shown.length ≤ sizeLine ∧ Q (.str d.shown) H) := by
  intro pins s σ H xs us Q I r h
  obtain ⟨y, d, rfl, hd, hi, hsh, hs, hl, q⟩ := h
  obtain ⟨u, rfl, r1⟩ := vals1 r
  obtain ⟨as, r2⟩ := Dp.reads I d y u hd r1
  obtain ⟨a, rfl⟩ := PyProof.Rows.isRef_of_reads r2 hi
  have dp := SeqAt.depth_of_shaped hsh
  refine repr_of_reads' r2 hs (PyData.noDict_hsm (PyData.hasDict_of_canLay d (SeqAt.canLay_of_shaped hsh))) hg (by omega) (fun _ _ q => q) ?_ hl
  intro h' u tk kept
  exact ⟨.str d.shown, H, I.kept kept, ⟨_, rfl⟩, q⟩
theorem call_reprB {s : Shared} {H : Hp} {sc : Scope} {ce : Env} {fp : List Addr} (hg : X.A.guards = some []) (hu : X.A.units + 65 < cLine) :
    CallR (X.blk s H sc ce fp) (.builtin "repr") (fun xs H Q => ∃ y d, xs = [y] ∧ Dp X.K H y d ∧ PyProof.Rows.isDisplay d = true ∧ SeqAt.shaped d = true ∧ d.showable = true ∧ d.shown.length ≤ sizeLine ∧ Q (.str d.shown) H) := call_repr (X := X.blk s H sc ce fp) hg hu
end
end LT

namespace LT
open PySem PySem.Spec PyProof.Rows L2
section
variable {P : Program} {w : World} {K : PySem.W.Frag} {mg mb : Str → Option Value} {k : Nat} {fa a : Addr} {fd : FuncData} {x : Str} {sp : Sp} {s₁ : Shared} {vs : List Value} {ns : List Int}
/-- what is told of the heap ahead of the law's call: the script alone, where it is no object of the top -/
def told (K : PySem.W.Frag) (a : Addr) (ob : Obj) (ns : List Int) : Hp := fun b => if b = a ∧ K.lookup a = none then some (.frz ob (.lst (ns.map V.int))) else none
theorem told_at {ob : Obj} {b : Addr} {u : HO} (h : told K a ob ns b = some u) : b = a ∧ K.lookup a = none ∧ u = .frz ob (.lst (ns.map V.int)) := by
  unfold told at h
  by_cases c : b = a ∧ K.lookup a = none
  · rw [if_pos c] at h
    exact ⟨c.1, c.2, (Option.some.inj h).symm⟩
  · rw [if_neg c] at h
    cases h
/-- the law's call, from a promise that asks that nothing is being shown -/
theorem lawG (there : K.In s₁.heap) (globs : s₁.heap.Ns mainGlobals mg) (blts : s₁.heap.Ns builtinsNs mb) (boot : ∀ y : Str, y ≠ "__name__" → mb y = bootBuiltins y) (noLim : s₁.heap.NoLimit) (noGens : s₁.gens = #[])
    (obj : s₁.heap.get? a = some { cls := .type "list", data := .seq vs.toArray }) (areI : IntsAre vs ns) (few : ns.length ≤ sizeLine) (hr : Room k callerA)
    (F : ∀ base : Heap, K.In base → base.Ns mainGlobals mg → GOk P w K mg base k fa fd [x] sp) (binds : ∀ (s : Shared) (u : Value), BindsTo s fd ⟨[u], []⟩ [(x, u)])
    (keeps : ∀ H : Hp, Only H → SqL K H a (ns.map V.int) → sp [.ref a] H (fun v _ => v = .bl true) E0) :
    codeAny (model P w) callerA (.call (.ref fa) ⟨[.ref a], []⟩) (fun r s' => r = .ok (.ret (.bool true)) ∧ OldK s₁.heap s'.heap ∧ s'.os = s₁.os ∧ AllBare s'.gens) s₁ := by
  generalize ho : ({ cls := .type "list", data := .seq vs.toArray } : Obj) = ob at obj
  have items := vals_ints areI
  have only : Only (told K a ob ns) := by
    intro b
    cases q : told K a ob ns b with
    | none => exact Or.inl rfl
    | some u => exact Or.inr ⟨ob, ns.map V.int, by rw [(told_at q).2.2]⟩
  have sq : SqL K (told K a ob ns) a (ns.map V.int) := by
    cases q : K.lookup a with
    | none => exact Or.inl (Or.inr ⟨ob, if_pos ⟨rfl, q⟩⟩)
    | some o =>
      have same : o = ob := Option.some.inj ((there a o q).symm.trans obj)
      subst same
      subst ho
      refine Or.inr ⟨_, vs.toArray, _, q, rfl, rfl, rfl, ?_, by simpa using items⟩
      rw [List.size_toArray, areI.length]
      exact few
  have fits : HOk P w (told K a ob ns) s₁.heap := by
    intro b u q
    obtain ⟨rfl, _, rfl⟩ := told_at q
    subst ho
    exact ⟨obj, by rw [List.length_map]; exact few, vs, _, items, obj⟩
  have behind : ∀ {b : Addr} {o : Obj}, s₁.heap.get? b = some o → told K a ob ns b = none → (hidT s₁.heap (told K a ob ns)).get? b = some o := fun q n => hidT_get q n
  have nsp : ∀ {b : Addr} {m : Str → Option Value}, s₁.heap.Ns b m → (hidT s₁.heap (told K a ob ns)).Ns b m := by
    rintro b m ⟨o, es, ep, q, d, r⟩
    refine ⟨o, es, ep, behind q ?_, d, r⟩
    cases z : told K a ob ns b with
    | none => rfl
    | some u =>
      obtain ⟨rfl, _, _⟩ := told_at z
      rw [obj] at q
      cases q
      subst ho
      cases (show Data.seq vs.toArray _ = Data.dict es ep from d)
  have inB : K.In (hidT s₁.heap (told K a ob ns)) := by
    intro b o q
    refine behind (there b o q) ?_
    cases z : told K a ob ns b with
    | none => rfl
    | some u =>
      obtain ⟨rfl, n, _⟩ := told_at z
      rw [n] at q
      cases q
  have M : Mod K mg (hidT s₁.heap (told K a ob ns)) := by
    obtain ⟨mc, c1, c2⟩ := noLim
    exact ⟨inB, nsp globs, ⟨mb, nsp blts, boot⟩, ⟨mc, nsp c1, c2⟩⟩
  have ev : Env0 P w K mg (hidT s₁.heap (told K a ob ns)) callerA [] s₁ (told K a ob ns) :=
    { frames := rfl, mod := M, bs := fun _ _ q => of_hidT q, bsz := Nat.le_of_eq (hidT_size _ _), funs := trivial, frf := fun b q => absurd (show b ∈ ([] : List Addr) from q) List.not_mem_nil, hok := fits, bare := .of_eq noGens }
  have ran := (F _ inB (nsp globs)).run callerA [] s₁ (told K a ob ns) ⟨[.ref a], []⟩ [.ref a] [.ref a] _ rfl hr ev (binds s₁ (.ref a)) (.cons rfl .nil) (keeps _ only sq)
  apply codeAny_mono ran
  intro res s' h
  match res, h with
  | .error _, h => exact False.elim h
  | .ok .next, h => exact False.elim h
  | .ok .brk, h => exact False.elim h
  | .ok .cont, h => exact False.elim h
  | .ok (.ret u), ⟨v, H', os, bare, un, hok', rv, q⟩ =>
    have qv : v = .bl true := q
    subst qv
    have qu : u = Value.bool true := rv
    subst qu
    refine ⟨rfl, OldK.of_keep ?_, os, bare⟩
    intro b o q1
    cases z : told K a ob ns b with
    | none => exact un.keep b o q1 z (fun m => absurd (show b ∈ ([] : List Addr) from m) List.not_mem_nil) List.not_mem_nil
    | some c =>
      obtain ⟨rfl, n, rfl⟩ := told_at z
      obtain ⟨e1, _⟩ := fits _ _ z
      obtain ⟨e2, _⟩ := hok' _ _ (un.frzs _ _ _ z)
      rw [q1] at e1
      cases e1
      exact e2
end
theorem walkG {l : PySem.W.OpenLaw} {n k : Nat} {q : Program} {loose : List Str} {XP : (Str → Option Value) → Heap → Prop} {YP : World → Heap → Prop} {d : DefRec} {K : Params → PySem.W.Frag} {sp : World → Sp} {x : Str}
    (hn : l.most = some n) (hn2 : n ≤ sizeLine) (hdf : d.params.defaults = []) (hr : Room k callerA) (hY : ∀ (w : World) (h : Heap), YP w h → (K w.params).In h)
    (F : ∀ (w : World) (mg : Str → Option Value) (fa : Addr) (h : Heap), (K w.params).In h → h.Ns mainGlobals mg → mg d.name = some (.ref fa) →
      ∃ fd : FuncData, (∀ (s : Shared) (u : Value), BindsTo s fd ⟨[u], []⟩ [(x, u)]) ∧ ∀ base : Heap, (K w.params).In base → base.Ns mainGlobals mg → GOk l.prog w (K w.params) mg base k fa fd [x] (sp w))
    (keeps : ∀ (w : World) (H : Hp) (a : Addr) (ns : List Int), ns.length ≤ n → Only H → SqL (K w.params) H a (ns.map V.int) → sp w [.ref a] H (fun v _ => v = .bl true) E0) :
    PySem.W.WalkO q loose XP YP l.row.toRowW d [] (fun f vs => PySem.call f vs) := by
  apply Att.attach_call hn hdf
  intro w s₀ s₁ mg mb fa o pm cd doc a vs ns G Y ho hd hcd hmg hobj hints hlen hg
  obtain ⟨fd, hb, hF⟩ := F w mg fa _ (hY w _ Y) G.T.g hmg
  exact lawG (hY w _ Y) G.T.g G.T.b G.T.builtins G.T.nolimit hg hobj hints (Nat.le_trans hlen hn2) hr hF hb (fun H hO hS => keeps w H a ns hlen hO hS)
end LT

namespace LT
open PySem PySem.Spec PyProof.Rows L2
theorem ne_no {x y : V} (h : x = y) : V.bl (!decide (x = y)) = V.bl false := by rw [decide_eq_true h]; rfl
theorem Sm.pl {K : PySem.W.Frag} {H : Hp} {v : V} {d : PyData} (h : Sm H v d) : ∃ t, Pl K H v t := by
  cases h with
  | non => exact ⟨_, .non⟩
  | bl b => exact ⟨_, .bl b⟩
  | int i => exact ⟨_, .int i⟩
  | str x => exact ⟨_, .str x⟩
  | lst e => exact ⟨_, .lst e⟩
  | tup e => exact ⟨_, .tup e⟩
  | dict e => exact ⟨_, .dict e⟩
def okShow (ds : List PyData) : Prop := (PyData.hasDictAll ds = true → ds.all noL = true) ∧ (PyData.list ds).showable = true ∧ (PyData.list ds).shown.length ≤ sizeLine
/-- what the top says of a class of errors that is caught: L is LogError -/
structure CK (K : PySem.W.Frag) (Cs : List Addr) (L C : Addr) (nm : Str) : Prop where
  e : ExcC K C
  kt : ∃ bs, Kit K C Cs bs ∧ ((clsNames.zip bs).filter fun x => x.2).map (fun x => x.1) = [nm]
  v : PySem.W.kitOne K (.ref C) (.type "ValueError") = some true
  n1 : nm ≠ "spans"
  n2 : nm ≠ "nodes"
  n3 : nm ≠ "bounds"
  n4 : nm ≠ "text"
  n5 : nm ≠ "over"
  ap : nm ++ ("" : Str) = nm
  ln : nm.length ≤ 100
  x : PySem.W.exmOne K (.ref C) (.ref L) = some true
/-- what the law is told: the class of the error, or fine -/
def Word (CS CN : Addr) (r : Option Addr) (nm : Str) : Prop := (r = none ∧ nm = "fine") ∨ (r = some CS ∧ nm = "size") ∨ (r = some CN ∧ nm = "number")
def spLawTold (CS CN : Addr) : Sp := fun vs H Q _ => ∃ (door : Nat) (v1 v2 v3 : V) (d1 d2 d3 : PyData) (r : Option Addr) (nm : Str), vs = [.int door, v1, v2, v3] ∧ door ≤ 5 ∧ Sm H v1 d1 ∧ Sm H v2 d2 ∧ Sm H v3 d3 ∧ okShow [d1, d2, d3] ∧ Out26 CS CN door v1 v2 v3 r ∧ Word CS CN r nm ∧ ∀ H', Same H H' → Q (.str nm) H'
section
variable {P : Program} {w : World} {K : PySem.W.Frag} {mg : Str → Option Value} {base : Heap} {CS CN CLogError : Addr} {Cs : List Addr}
theorem ok_law_told {f g0 g3 : Addr} {fd d0 d3 : FuncData} (F : Fun K "_law_told" "_law_told" sLawTold f fd) (XLogError : GF mg "LogError" CLogError) (KS : CK K Cs CLogError CS "size") (KN : CK K Cs CLogError CN "number")
    (GXLawCalled : FnOk P w K mg base (L2.CX P w) 9 g0 d0 ["door", "one", "two", "three"] (spCalled K CS CN)) (ALawCalled : At K mg "_law_called" g0 d0 ["door", "one", "two", "three"])
    (GLawToldKind : FnOk P w K mg base CX0 2 g3 d3 ["e"] (spToldKind K Cs)) (ALawToldKind : At K mg "_law_told_kind" g3 d3 ["e"]) (z_repr : mg "repr" = none) : GOk P w K mg base 10 f fd ["door", "one", "two", "three"] (spLawTold CS CN) := by
  refine okG F scLawTold (fun vs H Q E h => ?_) (fun cdv A outer s H vs Q hg hr h => ?_)
  · obtain ⟨_, _, _, _, _, _, _, _, _, rfl, _⟩ := h
    rfl
  obtain ⟨door, v1, v2, v3, d1, d2, d3, r, nm, rfl, hw, h1, h2, h3, hshow, ho, wd, q⟩ := h
  refine ⟨_, (pss_cons (ps_par (i := 4) (j := 5) (by rfl) scLawTold.nd rfl rfl (by decide) rfl rfl (pa_cons (pe_callB (call_reprN hg (units1 hr)) (by rfl) z_repr (by decide +kernel) (pa_cons (pe_lstN (pa_cons (pv 1) (pa_cons (pv 2) (pa_cons (pv 3) pa_nil)))) pa_nil)) (pa_cons pe_non pa_nil)) (by rfl))
    (pss_cons (ps_try_keep (i := 6) rfl rfl rfl scLawTold.nd rfl rfl ⟨rfl, by decide, .inl XLogError.g⟩ takes0 (fun W pn xe tk _ => (pss_one (ps_expr (pe_callS GXLawCalled (hr.mono (by decide)) rfl ALawCalled.m ALawCalled.kp ALawCalled.b (fun σ => passAt tk σ) (pa_cons (pv 0) (pa_cons (pv 1) (pa_cons (pv 2) (pa_cons (pv 3) pa_nil)))))))) (fun a oe cls d pn _ _ => (pss_one (ps_set (i := 5) scLawTold.nd rfl (Or.inl rfl) (pv 6)))))
    (pss_cons (ps_if (pt_cmpR op_ne (pe_callB (call_reprN hg (units1 hr)) (by rfl) z_repr (by decide +kernel) (pa_cons (pe_lstN (pa_cons (pv 1) (pa_cons (pv 2) (pa_cons (pv 3) pa_nil)))) pa_nil)) (pv 4) (nomark _))
    (pss_one (ps_ret pe_str))
    pss_nil)
    (pss_one (ps_ret (pe_ifExp (pt_cmpR op_isN (pv 5) pe_non (nomark _)) pe_str (pe_call GLawToldKind (hr.mono (by decide)) rfl ALawToldKind.m ALawToldKind.kp ALawToldKind.b .nil pass0 (pa_cons (pv 5) pa_nil)))))))), ?_⟩
  have three : 3 ≤ sizeLine := by decide
  refine ⟨_, rfl, _, rfl, _, rfl, three, fun l nl hl => ?_⟩
  have s1 := same_upd (o := .lst [v1, v2, v3]) nl
  refine ⟨l, _, [d1, d2, d3], rfl, upd_same, hl, .cons (h1.same s1) (.cons (h2.same s1) (.cons (h3.same s1) .nil)), hshow.1, hshow.2.1, hshow.2.2, _, _, rfl, ?_⟩
  generalize upd H l (.lst [v1, v2, v3]) = H1 at s1
  have g1 := h1.same s1
  have g2 := h2.same s1
  have g3' := h3.same s1
  obtain ⟨t1, p1⟩ := g1.pl (K := K)
  obtain ⟨t2, p2⟩ := g2.pl (K := K)
  obtain ⟨t3, p3⟩ := g3'.pl (K := K)
  have err : ∀ (C : Addr) (G : Hp) (a : Addr), CK K Cs CLogError C nm → Same H G → G a = some (ExK (.ref C) none a) → spToldKind K Cs [.ref a] G Q E0 := fun C G a KC sG na => by
    obtain ⟨bs, hk, hf⟩ := KC.kt
    exact ⟨a, C, bs, _, rfl, na, KC.e, hk, KC.v, hf, KC.n1, KC.n2, KC.n3, KC.n4, KC.n5, KC.ap, KC.ln, fun H' s' => q H' (sG.trans s')⟩
  have bad : ∀ C, r = some C → CK K Cs CLogError C nm := fun C e => by
    rcases wd with ⟨e1, _⟩ | ⟨e1, rfl⟩ | ⟨e1, rfl⟩
    · rw [e] at e1; cases e1
    · rw [e] at e1; cases e1; exact KS
    · rw [e] at e1; cases e1; exact KN
  cases hrr : r with
  | some C =>
    have KC := bad C hrr
    refine ⟨_, rfl, _, rfl, _, rfl, _, rfl, door, v1, v2, v3, t1, t2, t3, r, rfl, hw, p1, p2, p3, ho, .inr ⟨C, hrr, ⟨true, KC.x, fun _ a na => ⟨_, rfl, fun na2 => ⟨_, rfl, _, rfl, _, rfl, three, fun l2 nl2 hl2 => ?_⟩⟩, fun z => nomatch z⟩⟩⟩
    have s2 := same_upd (o := ExK (.ref C) none a) na2
    have s3 := same_upd (o := .lst [v1, v2, v3]) nl2
    refine ⟨l2, _, [d1, d2, d3], rfl, upd_same, hl2, .cons ((g1.same s2).same s3) (.cons ((g2.same s2).same s3) (.cons ((g3'.same s2).same s3) .nil)), hshow.1, hshow.2.1, hshow.2.2, _, rfl, rfl, false, ne_no rfl, ?_⟩
    exact ⟨_, rfl, rfl, false, rfl, _, rfl, err C _ a KC (s1.trans (s2.trans s3)) (s3 _ _ upd_same)⟩
  | none =>
    have en : nm = "fine" := by
      rcases wd with ⟨_, e⟩ | ⟨e, _⟩ | ⟨e, _⟩
      · exact e
      · rw [hrr] at e; cases e
      · rw [hrr] at e; cases e
    refine ⟨_, rfl, _, rfl, _, rfl, _, rfl, door, v1, v2, v3, t1, t2, t3, r, rfl, hw, p1, p2, p3, ho, .inl ⟨hrr, fun H2 s2 => ⟨_, rfl, _, rfl, _, rfl, three, fun l2 nl2 hl2 => ?_⟩⟩⟩
    have s3 := same_upd (o := .lst [v1, v2, v3]) nl2
    refine ⟨l2, _, [d1, d2, d3], rfl, upd_same, hl2, .cons ((g1.same s2).same s3) (.cons ((g2.same s2).same s3) (.cons ((g3'.same s2).same s3) .nil)), hshow.1, hshow.2.1, hshow.2.2, _, rfl, rfl, false, ne_no rfl, ?_⟩
    subst en
    exact ⟨_, rfl, rfl, true, rfl, q _ (s1.trans (s2.trans s3))⟩
end
end LT

namespace LT
open PySem PySem.Spec PyProof.Rows L2
def Tiny (d : PyData) : Prop := d.showable = true ∧ d.shown.length ≤ 100
theorem tiny_int {i : Int} (h : i.natAbs < 10 ^ 66) : Tiny (.int i) := by
  refine ⟨decide_eq_true ?_, ?_⟩
  · by_cases z : i.natAbs = 0
    · rw [z]; decide
    · exact Nat.lt_of_lt_of_le ((Nat.log2_lt (k := 250) z).mpr (Nat.lt_of_lt_of_le h (by decide))) (by decide)
  · have e := int_text_length_le10 (a := i) (k := 66) (by decide) h
    show (Str.ofString (toString i)).length ≤ 100
    rw [PySem.ofString_length]
    omega
theorem okShow_two {a b : PyData} (ha : Tiny a) (hb : Tiny b) (h : (a.hasDict || b.hasDict) = true → noL a = true ∧ noL b = true) : okShow [a, b] := by
  refine ⟨fun z => ?_, ?_, ?_⟩
  · have z2 : (a.hasDict || (b.hasDict || false)) = true := by simpa only [PyData.hasDictAll] using z
    rw [Bool.or_false] at z2
    obtain ⟨x, y⟩ := h z2
    simp [x, y]
  · simp only [PyData.showable, PyData.showableAll, Bool.and_true, Bool.and_eq_true]
    exact ⟨ha.1, hb.1⟩
  · have e : (PyData.list [a, b]).shown.length ≤ 1 + ((a.shown.length + (b.shown.length + 0)) + 2 * 2) + 3 := by
      have h := PySem.listText_len_le [a.shown, b.shown]
      simp only [List.map_cons, List.map_nil, List.sum_cons, List.sum_nil, List.length_cons, List.length_nil] at h
      have e : (PyData.list [a, b]).shown = listText [a.shown, b.shown] := by simp only [PyData.shown, PyData.shownAll]
      rw [e]
      omega
    have := ha.2
    have := hb.2
    exact szle (by omega)
theorem okShow_three {a b c : PyData} (ha : Tiny a) (hb : Tiny b) (hc : Tiny c) (h : (a.hasDict || b.hasDict || c.hasDict) = true → noL a = true ∧ noL b = true ∧ noL c = true) : okShow [a, b, c] := by
  refine ⟨fun z => ?_, ?_, ?_⟩
  · have z2 : (a.hasDict || (b.hasDict || (c.hasDict || false))) = true := by simpa only [PyData.hasDictAll] using z
    rw [Bool.or_false, ← Bool.or_assoc] at z2
    obtain ⟨x, y, w⟩ := h z2
    simp [x, y, w]
  · simp only [PyData.showable, PyData.showableAll, Bool.and_true, Bool.and_eq_true]
    exact ⟨ha.1, hb.1, hc.1⟩
  · have e : (PyData.list [a, b, c]).shown.length ≤ 1000 := by
      have h := PySem.listText_len_le [a.shown, b.shown, c.shown]
      simp only [List.map_cons, List.map_nil, List.sum_cons, List.sum_nil, List.length_cons, List.length_nil] at h
      have e : (PyData.list [a, b, c]).shown = listText [a.shown, b.shown, c.shown] := by simp only [PyData.shown, PyData.shownAll]
      rw [e]
      have := ha.2
      have := hb.2
      have := hc.2
      omega
    exact szle (by omega)
end LT

namespace LT
open PySem PySem.Spec PyProof.Rows L2
theorem strs_dp {K : PySem.W.Frag} {H : Hp} : ∀ ns : List Str, DpAll K H (ns.map V.str) (ns.map PyData.str)
  | [] => .nil
  | n :: ns => .cons (.str n) (strs_dp ns)
theorem strs_same {ns : List Str} (h : SeqAt.shaped (.list (ns.map PyData.str)) = true) : PyData.eqv (.list (ns.map PyData.str)) (.list (ns.map PyData.str)) = true := SeqAt.eqv_refl _ (SeqAt.canLay_of_shaped h)
theorem shS6 : SeqAt.shaped (.list ((["size", "size", "size", "size", "size", "size"] : List Str).map PyData.str)) = true := by decide +kernel
theorem shS3 : SeqAt.shaped (.list ((["size", "size", "size"] : List Str).map PyData.str)) = true := by decide +kernel
theorem shN2 : SeqAt.shaped (.list ((["number", "number"] : List Str).map PyData.str)) = true := by decide +kernel
theorem shF11 : SeqAt.shaped (.list ((["fine", "fine", "fine", "fine", "fine", "fine", "fine", "fine", "fine", "fine", "fine"] : List Str).map PyData.str)) = true := by decide +kernel
/-- a value that is none of those that p tells -/
def Bd (H : Hp) (p : V → Bool) (v : V) : Prop := ∃ d, Sm H v d ∧ Tiny d ∧ (d.hasDict = true → noL d = true) ∧ p v = false
theorem Bd.same {H H' : Hp} {p : V → Bool} {v : V} (h : Bd H p v) (s : Same H H') : Bd H' p v := by
  obtain ⟨d, a, b⟩ := h
  exact ⟨d, a.same s, b⟩
theorem bd_int {H : Hp} {p : V → Bool} {i : Int} (h : i.natAbs < 10 ^ 66) (h2 : p (.int i) = false) : Bd H p (.int i) := ⟨_, .int i, tiny_int h, fun z => by simp [PyData.hasDict] at z, h2⟩
theorem out_in {lo hi i : Int} (h2 : i < lo ∨ hi < i) : inRange lo hi (.int i) = false := by
  show (decide (lo ≤ i) && decide (i ≤ hi)) = false
  rcases h2 with h2 | h2
  · rw [decide_eq_false (by omega)]; rfl
  · rw [decide_eq_false (p := i ≤ hi) (by omega), Bool.and_false]
/-- the values that are no integers -/
theorem bd_kinds {H : Hp} {n1 n2 n3 : Addr} {p : V → Bool} (h1 : H n1 = some (.lst [.int 1])) (h2 : H n2 = some (.tup [.int 1])) (h3 : H n3 = some (.dK [])) (hn : p .non = false) (hb : ∀ b, p (.bl b) = false) (hs : ∀ x, p (.str x) = false) (hr : ∀ a, p (.ref a) = false) :
    ∀ v ∈ [V.non, V.bl true, V.bl false, V.str "1", V.ref n1, V.ref n2, V.ref n3], Bd H p v := by
  intro v hv
  simp only [List.mem_cons, List.not_mem_nil, or_false] at hv
  rcases hv with rfl | rfl | rfl | rfl | rfl | rfl | rfl
  · exact ⟨_, .non, ⟨by decide +kernel, by decide +kernel⟩, fun z => by simp [PyData.hasDict] at z, hn⟩
  · exact ⟨_, .bl _, ⟨by decide +kernel, by decide +kernel⟩, fun z => by simp [PyData.hasDict] at z, hb _⟩
  · exact ⟨_, .bl _, ⟨by decide +kernel, by decide +kernel⟩, fun z => by simp [PyData.hasDict] at z, hb _⟩
  · exact ⟨_, .str _, ⟨by decide +kernel, by decide +kernel⟩, fun z => by simp [PyData.hasDict] at z, hs _⟩
  · exact ⟨_, .lst h1, ⟨by decide +kernel, by decide +kernel⟩, fun z => by simp [PyData.hasDict, PyData.hasDictAll] at z, hr _⟩
  · exact ⟨_, .tup h2, ⟨by decide +kernel, by decide +kernel⟩, fun _ => rfl, hr _⟩
  · exact ⟨_, .dict h3, ⟨by decide +kernel, by decide +kernel⟩, fun _ => rfl, hr _⟩
def odds (n1 n2 n3 : Addr) : List V := [.non, .bl true, .bl false, .str "1", .ref n1, .ref n2, .ref n3, .int (-1), .int (10 ^ Int.toNat 64), .int (0 - 10 ^ Int.toNat 64)]
theorem t64 : (10 : Int) ^ Int.toNat 64 = 10000000000000000000000000000000000000000000000000000000000000000 := by decide
theorem bd_odds {H : Hp} {n1 n2 n3 : Addr} {lo hi : Int} (hl : 0 ≤ lo) (hh : hi ≤ 10 ^ 30) (h1 : H n1 = some (.lst [.int 1])) (h2 : H n2 = some (.tup [.int 1])) (h3 : H n3 = some (.dK [])) : ∀ v ∈ odds n1 n2 n3, Bd H (inRange lo hi) v := by
  intro v hv
  have t30 : (10 : Int) ^ 30 = 1000000000000000000000000000000 := by decide
  have k := bd_kinds (p := inRange lo hi) h1 h2 h3 rfl (fun _ => rfl) (fun _ => rfl) (fun _ => rfl)
  have e : odds n1 n2 n3 = [V.non, V.bl true, V.bl false, V.str "1", V.ref n1, V.ref n2, V.ref n3] ++ [V.int (-1), V.int (10 ^ Int.toNat 64), V.int (0 - 10 ^ Int.toNat 64)] := rfl
  rw [e, t64] at hv
  rcases List.mem_append.mp hv with hv | hv
  · exact k v hv
  · simp only [List.mem_cons, List.not_mem_nil, or_false] at hv
    rcases hv with rfl | rfl | rfl
    · exact bd_int (by decide) (out_in (.inl (by omega)))
    · exact bd_int (by decide) (out_in (.inr (by omega)))
    · exact bd_int (by decide) (out_in (.inl (by omega)))
def odds2 (n1 n2 n3 : Addr) : List V := [.non, .bl true, .bl false, .str "1", .ref n1, .ref n2, .ref n3, .int 0, .int (-1), .int (0 - 10 ^ Int.toNat 64)]
theorem bd_odds2 {H : Hp} {n1 n2 n3 : Addr} (h1 : H n1 = some (.lst [.int 1])) (h2 : H n2 = some (.tup [.int 1])) (h3 : H n3 = some (.dK [])) : ∀ v ∈ odds2 n1 n2 n3, Bd H (fromR 1) v := by
  intro v hv
  have k := bd_kinds (p := fromR 1) h1 h2 h3 rfl (fun _ => rfl) (fun _ => rfl) (fun _ => rfl)
  have e : odds2 n1 n2 n3 = [V.non, V.bl true, V.bl false, V.str "1", V.ref n1, V.ref n2, V.ref n3] ++ [V.int 0, V.int (-1), V.int (0 - 10 ^ Int.toNat 64)] := rfl
  rw [e, t64] at hv
  rcases List.mem_append.mp hv with hv | hv
  · exact k v hv
  · simp only [List.mem_cons, List.not_mem_nil, or_false] at hv
    rcases hv with rfl | rfl | rfl
    · exact bd_int (by decide) (by decide)
    · exact bd_int (by decide) (by decide)
    · exact bd_int (by decide) (by decide)
theorem tiny_non : Tiny .none := ⟨by decide +kernel, by decide +kernel⟩
section
variable {P : Program} {w : World} {K : PySem.W.Frag} {mg : Str → Option Value} {base : Heap} {CS CN : Addr}
def spRight : Sp := fun vs H Q _ => ∃ (b : Addr) (c n : Nat), vs = [.ref b, .int n] ∧ ReelAt H b c ∧ c ≤ 10 ^ 6 ∧ 1 ≤ n ∧ n ≤ 10 ^ 30 ∧ ∀ (H' : Hp), But b H H' → ReelAt H' b (c + 1) → Q (.bl true) H'
theorem ok_law_right {f g1 g2 : Addr} {fd d1 d2 : FuncData} (F : Fun K "_law_right" "_law_right" sLawRight f fd)
    (GLawTold : GOk P w K mg base 10 g1 d1 ["door", "one", "two", "three"] (spLawTold CS CN)) (ALawTold : At K mg "_law_told" g1 d1 ["door", "one", "two", "three"])
    (GLawSpin : FnOk P w K mg base CX0 1 g2 d2 ["reel", "many"] spSpin) (ALawSpin : At K mg "_law_spin" g2 d2 ["reel", "many"]) (z_range : mg "range" = none) : GOk P w K mg base 11 f fd ["reel", "size"] spRight := by
  refine okG F scLawRight (fun vs H Q E h => ?_) (fun cdv A outer s H vs Q hg hr h => ?_)
  · obtain ⟨_, _, _, rfl, _⟩ := h
    rfl
  obtain ⟨b, c, n, rfl, hb, hc, n1, n30, q⟩ := h
  refine ⟨_, (pss_cons (ps_asg (pe_tup (pa_cons (pe_lst (pa_cons pe_non (pa_cons pe_bl (pa_cons pe_bl (pa_cons pe_str (pa_cons (pe_lst (pa_cons pe_int pa_nil)) (pa_cons (pe_tup (pa_cons pe_int pa_nil)) (pa_cons pe_dnewK (pa_cons (pe_un un_neg pe_int) (pa_cons (pe_op op_pow pe_int pe_int) (pa_cons (pe_op op_sub pe_int (pe_op op_pow pe_int pe_int)) pa_nil))))))))))) (pa_cons (pe_op op_pow pe_int pe_int) pa_nil))) (pg_tup (by rfl) (pgs_cons (pg_name (i := 2) scLawRight.nd rfl (Or.inl rfl)) (pgs_cons (pg_name (i := 3) scLawRight.nd rfl (Or.inr rfl)) pgs_nil))))
    (pss_cons (ps_for PassesOwn.never rfl (pi_list (pe_op op_cat (pv 2) (pe_lst (pa_cons pe_int (pa_cons (pe_op op_add (pv 3) pe_int) pa_nil))))) (pg_name (i := 4) scLawRight.nd rfl (Or.inr rfl))
    (pss_cons (ps_for PassesOwn.never rfl (pi_tup (pe_tup (pa_cons (pv 3) (pa_cons pe_non (pa_cons (pv 4) pa_nil))))) (pg_name (i := 5) scLawRight.nd rfl (Or.inr rfl))
    (pss_one (ps_if (pt_cmpR (op_neD hr.units) (pe_lc (own := [("door", 8)]) rfl scLawRight.nd (pi_range1 (by rfl) z_range (pa_cons pe_int pa_nil)) (blkOk_by (N := ["reel", "size", "odd", "far", "bad", "two", "step", "told", "door"]) (sc := defScope sLawRight) (by decide +kernel)) (fun _ _ _ _ _ => (pg_name (i := 8) scLawRight.nd rfl (Or.inl rfl))) (fun _ _ _ _ _ => pts_nil) (fun _ _ _ _ _ => (pe_callG GLawTold hg (hr.mono (by decide)) rfl ALawTold.m ALawTold.kp ALawTold.b (pa_cons (pv 8) (pa_cons (pv 4) (pa_cons (pv 5) (pa_cons pe_non pa_nil))))))) (pe_op op_rep (pe_lst (pa_cons pe_str pa_nil)) pe_int) (nomark _))
    (pss_one (ps_ret pe_bl))
    pss_nil)))
    (pss_one (ps_if (pt_cmpR (op_neD hr.units) (pe_lc (own := [("door", 8)]) rfl scLawRight.nd (pi_tup (pe_tup (pa_cons pe_int (pa_cons pe_int (pa_cons pe_int pa_nil))))) (blkOk_by (N := ["reel", "size", "odd", "far", "bad", "two", "step", "told", "door"]) (sc := defScope sLawRight) (by decide +kernel)) (fun _ _ _ _ _ => (pg_name (i := 8) scLawRight.nd rfl (Or.inl rfl))) (fun _ _ _ _ _ => pts_nil) (fun _ _ _ _ _ => (pe_callG GLawTold hg (hr.mono (by decide)) rfl ALawTold.m ALawTold.kp ALawTold.b (pa_cons (pv 8) (pa_cons (pv 1) (pa_cons (pv 4) (pa_cons pe_non pa_nil))))))) (pe_op op_rep (pe_lst (pa_cons pe_str pa_nil)) pe_int) (nomark _))
    (pss_one (ps_ret pe_bl))
    pss_nil))))
    (pss_cons (ps_if (pt_cmpR (op_neD hr.units) (pe_lc (own := [("door", 8)]) rfl scLawRight.nd (pi_tup (pe_tup (pa_cons pe_int (pa_cons pe_int (pa_cons pe_int pa_nil))))) (blkOk_by (N := ["reel", "size", "odd", "far", "bad", "two", "step", "told", "door"]) (sc := defScope sLawRight) (by decide +kernel)) (fun _ _ _ _ _ => (pg_name (i := 8) scLawRight.nd rfl (Or.inl rfl))) (fun _ _ _ _ _ => pts_nil) (fun _ _ _ _ _ => (pe_callG GLawTold hg (hr.mono (by decide)) rfl ALawTold.m ALawTold.kp ALawTold.b (pa_cons (pv 8) (pa_cons (pe_op op_add (pv 1) pe_int) (pa_cons (pv 1) (pa_cons pe_non pa_nil))))))) (pe_op op_rep (pe_lst (pa_cons pe_str pa_nil)) pe_int) (nomark _))
    (pss_one (ps_ret pe_bl))
    pss_nil)
    (pss_cons (ps_for PassesOwn.never rfl (pi_list (pe_op op_cat (pv 2) (pe_lst (pa_cons (pe_op op_add (pe_op op_sub (pv 3) (pv 1)) pe_int) pa_nil)))) (pg_name (i := 4) scLawRight.nd rfl (Or.inr rfl))
    (pss_one (ps_if (pt_cmpR (op_neD hr.units) (pe_lst (pa_cons (pe_callG GLawTold hg (hr.mono (by decide)) rfl ALawTold.m ALawTold.kp ALawTold.b (pa_cons pe_int (pa_cons (pv 1) (pa_cons (pv 4) (pa_cons pe_non pa_nil))))) (pa_cons (pe_callG GLawTold hg (hr.mono (by decide)) rfl ALawTold.m ALawTold.kp ALawTold.b (pa_cons pe_int (pa_cons (pv 1) (pa_cons pe_int (pa_cons (pv 4) pa_nil))))) pa_nil))) (pe_op op_rep (pe_lst (pa_cons pe_str pa_nil)) pe_int) (nomark _))
    (pss_one (ps_ret pe_bl))
    pss_nil)))
    (pss_cons (ps_for PassesOwn.never rfl (pi_list (pe_lst (pa_cons pe_non (pa_cons pe_bl (pa_cons pe_bl (pa_cons pe_str (pa_cons (pe_lst (pa_cons pe_int pa_nil)) (pa_cons (pe_tup (pa_cons pe_int pa_nil)) (pa_cons pe_dnewK (pa_cons pe_int (pa_cons (pe_un un_neg pe_int) (pa_cons (pe_op op_sub pe_int (pe_op op_pow pe_int pe_int)) pa_nil)))))))))))) (pg_name (i := 4) scLawRight.nd rfl (Or.inr rfl))
    (pss_one (ps_if (pt_cmpR (op_neD hr.units) (pe_lst (pa_cons (pe_callG GLawTold hg (hr.mono (by decide)) rfl ALawTold.m ALawTold.kp ALawTold.b (pa_cons pe_int (pa_cons (pv 1) (pa_cons (pv 4) (pa_cons pe_int pa_nil))))) (pa_cons (pe_callG GLawTold hg (hr.mono (by decide)) rfl ALawTold.m ALawTold.kp ALawTold.b (pa_cons pe_int (pa_cons (pv 1) (pa_cons (pv 4) (pa_cons pe_non pa_nil))))) pa_nil))) (pe_op op_rep (pe_lst (pa_cons pe_str pa_nil)) pe_int) (nomark _))
    (pss_one (ps_ret pe_bl))
    pss_nil)))
    (pss_cons (ps_set (i := 6) scLawRight.nd rfl (Or.inl rfl) (pe_op op_add pe_int (pe_call GLawSpin (hr.mono (by decide)) rfl ALawSpin.m ALawSpin.kp ALawSpin.b .nil pass0 (pa_cons (pv 0) (pa_cons (pv 3) pa_nil)))))
    (pss_cons (ps_if (pt_cmpR op_ne (pe_callG GLawTold hg (hr.mono (by decide)) rfl ALawTold.m ALawTold.kp ALawTold.b (pa_cons pe_int (pa_cons (pv 1) (pa_cons (pv 6) (pa_cons (pe_op op_add (pe_op op_fdivW (pe_op op_sub (pv 3) (pv 1)) (pv 6)) pe_int) pa_nil))))) pe_str (nomark _))
    (pss_one (ps_ret pe_bl))
    pss_nil)
    (pss_cons (ps_set (i := 7) scLawRight.nd rfl (Or.inl rfl) (pe_lst (pa_cons (pe_callG GLawTold hg (hr.mono (by decide)) rfl ALawTold.m ALawTold.kp ALawTold.b (pa_cons pe_int (pa_cons (pv 1) (pa_cons (pv 6) (pa_cons (pe_op op_fdivW (pe_op op_sub (pv 3) (pv 1)) (pv 6)) pa_nil))))) (pa_cons (pe_callG GLawTold hg (hr.mono (by decide)) rfl ALawTold.m ALawTold.kp ALawTold.b (pa_cons pe_int (pa_cons (pv 1) (pa_cons (pe_op op_pow pe_int pe_int) (pa_cons pe_int pa_nil))))) pa_nil))))
    (pss_cons (ps_set (i := 7) scLawRight.nd rfl (Or.inl rfl) (pe_op op_cat (pv 7) (pe_lst (pa_cons (pe_callG GLawTold hg (hr.mono (by decide)) rfl ALawTold.m ALawTold.kp ALawTold.b (pa_cons pe_int (pa_cons (pv 1) (pa_cons (pe_op op_sub (pv 3) (pv 1)) (pa_cons pe_non pa_nil))))) (pa_cons (pe_callG GLawTold hg (hr.mono (by decide)) rfl ALawTold.m ALawTold.kp ALawTold.b (pa_cons pe_int (pa_cons (pv 1) (pa_cons pe_int (pa_cons pe_non pa_nil))))) (pa_cons (pe_callG GLawTold hg (hr.mono (by decide)) rfl ALawTold.m ALawTold.kp ALawTold.b (pa_cons pe_int (pa_cons (pv 1) (pa_cons pe_non (pa_cons pe_non pa_nil))))) pa_nil))))))
    (pss_cons (ps_set (i := 7) scLawRight.nd rfl (Or.inl rfl) (pe_op op_cat (pv 7) (pe_lc (own := [("door", 8)]) rfl scLawRight.nd (pi_tup (pe_tup (pa_cons pe_int (pa_cons pe_int (pa_cons pe_int pa_nil))))) (blkOk_by (N := ["reel", "size", "odd", "far", "bad", "two", "step", "told", "door"]) (sc := defScope sLawRight) (by decide +kernel)) (fun _ _ _ _ _ => (pg_name (i := 8) scLawRight.nd rfl (Or.inl rfl))) (fun _ _ _ _ _ => pts_nil) (fun _ _ _ _ _ => (pe_callG GLawTold hg (hr.mono (by decide)) rfl ALawTold.m ALawTold.kp ALawTold.b (pa_cons (pv 8) (pa_cons (pv 1) (pa_cons (pv 3) (pa_cons pe_non pa_nil)))))))))
    (pss_one (ps_ret (pe_cmpR (op_eqD hr.units) (pe_op op_cat (pv 7) (pe_lc (own := [("door", 8)]) rfl scLawRight.nd (pi_tup (pe_tup (pa_cons pe_int (pa_cons pe_int (pa_cons pe_int pa_nil))))) (blkOk_by (N := ["reel", "size", "odd", "far", "bad", "two", "step", "told", "door"]) (sc := defScope sLawRight) (by decide +kernel)) (fun _ _ _ _ _ => (pg_name (i := 8) scLawRight.nd rfl (Or.inl rfl))) (fun _ _ _ _ _ => pts_nil) (fun _ _ _ _ _ => (pe_callG GLawTold hg (hr.mono (by decide)) rfl ALawTold.m ALawTold.kp ALawTold.b (pa_cons (pv 8) (pa_cons (pv 1) (pa_cons (pv 1) (pa_cons pe_non pa_nil)))))))) (pe_op op_rep (pe_lst (pa_cons pe_str pa_nil)) pe_int) (nomark _)))))))))))))), ?_⟩
  have one1 : 1 ≤ sizeLine := by decide
  have two : 2 ≤ sizeLine := by decide
  have three : 3 ≤ sizeLine := by decide
  have t30 : (10 : Int) ^ 30 = 1000000000000000000000000000000 := by decide
  have tt : top30 = 1000000000000000000000000000000 := rfl
  have W1 : Word CS CN (some CS) "size" := .inr (.inl ⟨rfl, rfl⟩)
  have W2 : Word CS CN (some CN) "number" := .inr (.inr ⟨rfl, rfl⟩)
  have W3 : Word CS CN none "fine" := .inl ⟨rfl, rfl⟩
  have tn : Tiny (.int (n : Int)) := tiny_int (Nat.lt_of_le_of_lt (show ((n : Int)).natAbs ≤ 10 ^ 30 from n30) (by decide))
  have hdr : ∀ x ∈ [V.int 2, V.int 3, V.int 4], ∃ dr : Nat, x = .int (dr : Int) ∧ 2 ≤ dr ∧ dr ≤ 4 := by
    intro x hx
    simp only [List.mem_cons, List.not_mem_nil, or_false] at hx
    rcases hx with rfl | rfl | rfl
    · exact ⟨2, rfl, by omega, by omega⟩
    · exact ⟨3, rfl, by omega, by omega⟩
    · exact ⟨4, rfl, by omega, by omega⟩
  have f30 : (10 : Int) ^ Int.toNat 30 = top30 := by decide
  refine ⟨one1, fun m1 k1 => ⟨one1, fun m2 k2 => fun m3 k3 => ⟨_, rfl, _, _, rfl, rfl, ⟨by decide, by decide, by decide⟩, _, _, rfl, rfl, ⟨by decide, by decide, by decide⟩, _, _, rfl, rfl, (by show 10 ≤ sizeLine; decide), fun od kd => ⟨_, _, rfl, rfl, ⟨by decide, by decide, by decide⟩, two, fun tp ktp => ⟨tp, _, rfl, SqT.of upd_same, rfl, _, _, rfl, _, _, rfl, rfl, ?_⟩⟩⟩⟩⟩
  have s1 := same_upd (o := .lst [.int 1]) k1
  have s2 := same_upd (o := .tup [.int 1]) k2
  have s3 := same_upd (o := .dK []) k3
  generalize hH0 : upd (upd (upd (upd (upd H m1 _) m2 _) m3 _) od _) tp _ = H0
  have s5 := same_upd (o := .tup [.ref od, .int (10 ^ Int.toNat 30)]) ktp
  have s4 : Same (upd (upd (upd H m1 (.lst [.int 1])) m2 (.tup [.int 1])) m3 (.dK [])) H0 := by rw [← hH0]; exact (same_upd kd).trans s5
  have hod : H0 od = some (.lst (odds m1 m2 m3)) := by rw [← hH0]; exact s5 _ _ upd_same
  have sH := s1.trans (s2.trans (s3.trans s4))
  have f1 := s4 _ _ (s3 _ _ (s2 _ _ (upd_same (H := H) (a := m1) (o := .lst [.int 1]))))
  have f2 := s4 _ _ (s3 _ _ (upd_same (a := m2) (o := .tup [.int 1])))
  have f3 := s4 _ _ (upd_same (a := m3) (o := .dK []))
  have hO := fun (lo hi : Int) (hl : 0 ≤ lo) (hh : hi ≤ 10 ^ 30) => bd_odds (lo := lo) (hi := hi) hl hh f1 f2 f3
  have ol : (odds m1 m2 m3).length = 10 := rfl
  generalize odds m1 m2 m3 = O at hod hO ol
  clear s1 s2 s3 s4 s5 k1 k2 k3 kd ktp hH0 f1 f2 f3
  -- a wrong size, a wrong second one
  refine ⟨_, rfl, _, rfl, _, _, rfl, rfl, two, fun l kl => ?_⟩
  have u1 := same_upd (o := .lst [.int 0, .int ((10 ^ Int.toNat 30) + 1)]) kl
  refine ⟨od, l, _, _, rfl, rfl, u1 _ _ hod, upd_same, szle (by rw [ol]; show 10 + 2 ≤ 100000; decide), fun r kr => ?_⟩
  generalize hH1 : upd (upd H0 l _) r _ = H1
  have u2 : Same H0 H1 := by rw [← hH1]; exact u1.trans (same_upd kr)
  have hr1 : H1 r = some (.lst (O ++ [.int 0, .int ((10 ^ Int.toNat 30) + 1)])) := by rw [← hH1]; exact upd_same
  have hB1 : ∀ v ∈ O ++ [V.int 0, V.int ((10 ^ Int.toNat 30) + 1)], Bd H1 (inRange 1 top30) v := fun v hv => by
    rcases List.mem_append.mp hv with hv | hv
    · exact (hO 1 top30 (by decide) (by decide) v hv).same u2
    · simp only [List.mem_cons, List.not_mem_nil, or_false] at hv
      rcases hv with rfl | rfl
      · exact bd_int (by decide) (by decide)
      · exact bd_int (by decide) (by decide)
  refine ⟨r, rfl, ⟨_, SqL.of hr1⟩, for_list (K := K) (a := r) (xs := O ++ [.int 0, .int ((10 ^ Int.toNat 30) + 1)]) (fun i σ H' => ∃ v4 v5 : Option V, σ = [some (.ref b), some (.int (n : Int)), some (.ref od), some (.int (10 ^ Int.toNat 30)), v4, v5, none, none, none] ∧ Same H1 H')
    ⟨none, none, rfl, Same.refl _⟩ (fun i σ H' _ ⟨_, _, _, s5⟩ => SqL.of (s5 _ _ hr1)) ?_ ?_⟩
  · rintro i x σ H2 hi ⟨v4, v5, rfl, sm1⟩
    obtain ⟨d, hd, td, nd, ird⟩ := (hB1 x (List.mem_of_getElem? hi)).same sm1
    refine ⟨_, rfl, _, rfl, three, fun t kt => ?_⟩
    have w1 := same_upd (o := .tup [.int (10 ^ Int.toNat 30), .non, x]) kt
    have ht : (upd H2 t (.tup [.int (10 ^ Int.toNat 30), .non, x])) t = some (.tup [.int (10 ^ Int.toNat 30), .non, x]) := upd_same
    generalize upd H2 t (.tup [.int (10 ^ Int.toNat 30), .non, x]) = H3 at w1 ht
    have hd3 := hd.same w1
    have hv : ∀ y ∈ [V.int (10 ^ Int.toNat 30), V.non, x], ∃ e, Sm H3 y e ∧ okShow [d, e, .none] := by
      intro y hy
      simp only [List.mem_cons, List.not_mem_nil, or_false] at hy
      rcases hy with rfl | rfl | rfl
      · exact ⟨_, .int _, okShow_three td (tiny_int (by decide)) tiny_non (fun z => ⟨nd (by simpa [PyData.hasDict] using z), rfl, rfl⟩)⟩
      · exact ⟨_, .non, okShow_three td tiny_non tiny_non (fun z => ⟨nd (by simpa [PyData.hasDict] using z), rfl, rfl⟩)⟩
      · exact ⟨d, hd3, okShow_three td td tiny_non (fun z => by
          have z2 : d.hasDict = true := by simpa [PyData.hasDict] using z
          exact ⟨nd z2, nd z2, rfl⟩)⟩
    refine ⟨t, rfl, ⟨_, SqT.of ht⟩, for_tup (K := K) (a := t) (xs := [.int (10 ^ Int.toNat 30), .non, x]) (fun i σ H' => ∃ v5 : Option V, σ = [some (.ref b), some (.int (n : Int)), some (.ref od), some (.int (10 ^ Int.toNat 30)), some x, v5, none, none, none] ∧ Same H3 H')
      ⟨v5, rfl, Same.refl _⟩ (fun i σ H' _ ⟨_, _, s5⟩ => SqT.of (s5 _ _ ht)) ?_ ?_⟩
    · rintro j y σ H4 hj ⟨v5, rfl, sm2⟩
      obtain ⟨e, he, hs⟩ := hv y (List.mem_of_getElem? hj)
      refine ⟨6, rfl, by decide, by decide, fun D nD => ?_⟩
      refine lc_range (lo := 0) (n := 6) (fun i H' => Same H4 H' ∧ H' D = some (.lst (List.replicate i (V.str "size")))) ⟨same_upd nD, upd_same⟩ ?_ ?_
      · rintro k H5 hk ⟨s5, hD⟩
        refine ⟨rfl, ?_⟩
        refine ⟨_, rfl, _, rfl, _, rfl, k, x, y, .non, d, e, .none, _, "size", congrArg (fun z => [V.int z, x, y, V.non]) (by omega), by omega, (hd3.same sm2).same s5, (he.same sm2).same s5, .non, hs, .inl ⟨ird, rfl⟩, W1, fun H6 s6 => ?_⟩
        refine ⟨_, s6 _ _ hD, szlt (by rw [List.length_replicate]; omega), ?_, ?_⟩
        · exact fun a o k => by rw [upd_ne (ne_of_none k nD)]; exact s6 _ _ (s5 _ _ k)
        · rw [List.replicate_succ']
          exact upd_same
      rintro H5 ⟨s5, hD⟩
      have hD : H5 D = some (.lst ((["size", "size", "size", "size", "size", "size"] : List Str).map V.str)) := hD
      refine ⟨one1, fun l2 nl2 => ⟨l2, 6, _, rfl, rfl, upd_same, by decide, by decide, (by show 1 * 6 ≤ sizeLine; decide), fun p np => ?_⟩⟩
      have x1 := same_upd (o := .lst [.str "size"]) nl2
      have x2 := same_upd (o := .lst (List.replicate (Int.toNat 6) [V.str "size"]).flatten) np
      refine ⟨.list ((["size", "size", "size", "size", "size", "size"] : List Str).map PyData.str), .list ((["size", "size", "size", "size", "size", "size"] : List Str).map PyData.str), .lst (SqL.of (x2 _ _ (x1 _ _ hD))) (strs_dp ["size", "size", "size", "size", "size", "size"]), .lst (SqL.of upd_same) (strs_dp ["size", "size", "size", "size", "size", "size"]), shS6, shS6, ?_⟩
      rw [strs_same shS6]
      exact ⟨false, rfl, _, rfl, sm2.trans (s5.trans (x1.trans x2))⟩
    rintro σ H4 ⟨v5, rfl, sm2⟩
    have hd4 := hd3.same sm2
    have sn : okShow [.int (n : Int), d, .none] := okShow_three tn td tiny_non (fun z => ⟨rfl, nd (by simpa [PyData.hasDict] using z), rfl⟩)
    have oo : ∀ dr : Nat, 2 ≤ dr → dr ≤ 4 → Out26 CS CN dr (.int (n : Int)) x .non (some CS) := fun dr a b => .inr (.inl ⟨a, b, rfl, .inl ⟨in_top n1 n30, ird⟩⟩)
    refine ⟨three, fun t2 kt2 => ?_⟩
    have y1 := same_upd (o := .tup [.int 2, .int 3, .int 4]) kt2
    have ht2 : (upd H4 t2 (.tup [.int 2, .int 3, .int 4])) t2 = some (.tup [.int 2, .int 3, .int 4]) := upd_same
    generalize upd H4 t2 (.tup [.int 2, .int 3, .int 4]) = Hd at y1 ht2
    refine ⟨t2, rfl, ⟨_, SqT.of ht2⟩, fun D nD => lc_tup (xs := [.int 2, .int 3, .int 4]) (fun i H' => Same Hd H' ∧ H' D = some (.lst (List.replicate i (V.str "size")))) ⟨same_upd nD, upd_same⟩ (fun i H' _ ⟨k, _⟩ => SqT.of (k _ _ ht2)) ?_ ?_⟩
    · rintro i x6 H5 hi6 ⟨s5, hD⟩
      have il : i < 3 := (List.getElem?_eq_some_iff.mp hi6).1
      obtain ⟨dr, rfl, dr1, dr2⟩ := hdr x6 (List.mem_of_getElem? hi6)
      refine ⟨rfl, ?_⟩
      refine ⟨_, rfl, _, rfl, _, rfl, dr, .int (n : Int), x, .non, _, _, .none, _, "size", rfl, by omega, .int _, (hd4.same y1).same s5, .non, sn, oo dr dr1 dr2, W1, fun H6 s6 => ?_⟩
      refine ⟨_, s6 _ _ hD, szlt (by rw [List.length_replicate]; omega), ?_, ?_⟩
      · exact fun a o k => by rw [upd_ne (ne_of_none k nD)]; exact s6 _ _ (s5 _ _ k)
      · rw [List.replicate_succ']
        exact upd_same
    rintro H5 ⟨s5, hD⟩
    have hD : H5 D = some (.lst ((["size", "size", "size"] : List Str).map V.str)) := hD
    refine ⟨one1, fun l2 nl2 => ⟨l2, 3, _, rfl, rfl, upd_same, by decide, by decide, (by show 1 * 3 ≤ sizeLine; decide), fun p np => ?_⟩⟩
    have x1 := same_upd (o := .lst [.str "size"]) nl2
    have x2 := same_upd (o := .lst (List.replicate (Int.toNat 3) [V.str "size"]).flatten) np
    refine ⟨.list ((["size", "size", "size"] : List Str).map PyData.str), .list ((["size", "size", "size"] : List Str).map PyData.str), .lst (SqL.of (x2 _ _ (x1 _ _ hD))) (strs_dp ["size", "size", "size"]), .lst (SqL.of upd_same) (strs_dp ["size", "size", "size"]), shS3, shS3, ?_⟩
    rw [strs_same shS3]
    exact ⟨false, rfl, _, _, rfl, sm1.trans (w1.trans (sm2.trans (y1.trans (s5.trans (x1.trans x2)))))⟩
  rintro σ H2 ⟨v4, v5, rfl, sm1⟩
  have sH2 := sH.trans (u2.trans sm1)
  have hod2 := sm1 _ _ (u2 _ _ hod)
  have hO2 : ∀ lo hi : Int, 0 ≤ lo → hi ≤ 10 ^ 30 → ∀ v ∈ O, Bd H2 (inRange lo hi) v := fun lo hi a b v hv => ((hO lo hi a b v hv).same u2).same sm1
  clear hB1 hr1 u1 u2 hod hO kl kr hH1 sm1
  -- the wrong way round
  have tn1 : Tiny (.int ((n : Int) + 1)) := tiny_int (Nat.lt_of_le_of_lt (show ((n : Int) + 1).natAbs ≤ 10 ^ 30 + 1 by omega) (by decide))
  have sn1 : okShow [.int ((n : Int) + 1), .int (n : Int), .none] := okShow_three tn1 tn tiny_non (fun z => ⟨rfl, rfl, rfl⟩)
  have oo1 : ∀ dr : Nat, 2 ≤ dr → dr ≤ 4 → Out26 CS CN dr (.int ((n : Int) + 1)) (.int (n : Int)) .non (some CS) := fun dr a b => by
    by_cases h : n + 1 ≤ 10 ^ 30
    · exact .inr (.inl ⟨a, b, rfl, .inr ⟨n + 1, n, rfl, rfl, n1, by omega, h⟩⟩)
    · exact .inl ⟨out_in (.inr (by omega)), rfl⟩
  refine ⟨three, fun t2 kt2 => ?_⟩
  have y1 := same_upd (o := .tup [.int 2, .int 3, .int 4]) kt2
  have ht2 : (upd H2 t2 (.tup [.int 2, .int 3, .int 4])) t2 = some (.tup [.int 2, .int 3, .int 4]) := upd_same
  generalize upd H2 t2 (.tup [.int 2, .int 3, .int 4]) = Hd at y1 ht2
  refine ⟨t2, rfl, ⟨_, SqT.of ht2⟩, fun D nD => lc_tup (xs := [.int 2, .int 3, .int 4]) (fun i H' => Same Hd H' ∧ H' D = some (.lst (List.replicate i (V.str "size")))) ⟨same_upd nD, upd_same⟩ (fun i H' _ ⟨k, _⟩ => SqT.of (k _ _ ht2)) ?_ ?_⟩
  · rintro i x6 H5 hi6 ⟨s5, hD⟩
    have il : i < 3 := (List.getElem?_eq_some_iff.mp hi6).1
    obtain ⟨dr, rfl, dr1, dr2⟩ := hdr x6 (List.mem_of_getElem? hi6)
    refine ⟨rfl, ?_⟩
    refine ⟨_, rfl, _, rfl, _, _, rfl, rfl, _, rfl, dr, .int ((n : Int) + 1), .int (n : Int), .non, _, _, .none, _, "size", rfl, by omega, .int _, .int _, .non, sn1, oo1 dr dr1 dr2, W1, fun H6 s6 => ?_⟩
    refine ⟨_, s6 _ _ hD, szlt (by rw [List.length_replicate]; omega), ?_, ?_⟩
    · exact fun a o k => by rw [upd_ne (ne_of_none k nD)]; exact s6 _ _ (s5 _ _ k)
    · rw [List.replicate_succ']
      exact upd_same
  rintro H5 ⟨s5, hD⟩
  have hD : H5 D = some (.lst ((["size", "size", "size"] : List Str).map V.str)) := hD
  refine ⟨one1, fun l2 nl2 => ⟨l2, 3, _, rfl, rfl, upd_same, by decide, by decide, (by show 1 * 3 ≤ sizeLine; decide), fun p np => ?_⟩⟩
  have x1 := same_upd (o := .lst [.str "size"]) nl2
  have x2 := same_upd (o := .lst (List.replicate (Int.toNat 3) [V.str "size"]).flatten) np
  refine ⟨.list ((["size", "size", "size"] : List Str).map PyData.str), .list ((["size", "size", "size"] : List Str).map PyData.str), .lst (SqL.of (x2 _ _ (x1 _ _ hD))) (strs_dp ["size", "size", "size"]), .lst (SqL.of upd_same) (strs_dp ["size", "size", "size"]), shS3, shS3, ?_⟩
  rw [strs_same shS3]
  refine ⟨false, rfl, ?_⟩
  generalize hH6 : upd (upd H5 l2 _) p _ = H6
  have sx : Same H2 H6 := by rw [← hH6]; exact y1.trans (s5.trans (x1.trans x2))
  have sH6 := sH2.trans sx
  have hod6 := sx _ _ hod2
  have hO6 : ∀ lo hi : Int, 0 ≤ lo → hi ≤ 10 ^ 30 → ∀ v ∈ O, Bd H6 (inRange lo hi) v := fun lo hi a b v hv => (hO2 lo hi a b v hv).same sx
  clear hH6 x1 x2 nl2 np hD s5 y1 ht2 hO2 hod2 sH2 sx sH
  -- wrong numbers
  refine ⟨_, rfl, _, rfl, _, rfl, _, _, rfl, rfl, _, _, rfl, rfl, one1, fun l kl => ?_⟩
  have u1 := same_upd (o := .lst [.int ((10 ^ Int.toNat 30) - (n : Int) + 1)]) kl
  refine ⟨od, l, _, _, rfl, rfl, u1 _ _ hod6, upd_same, szle (by rw [ol]; show 10 + 1 ≤ 100000; decide), fun r kr => ?_⟩
  generalize hH1 : upd (upd H6 l _) r _ = H7
  have u2 : Same H6 H7 := by rw [← hH1]; exact u1.trans (same_upd kr)
  have hr1 : H7 r = some (.lst (O ++ [.int ((10 ^ Int.toNat 30) - (n : Int) + 1)])) := by rw [← hH1]; exact upd_same
  have hB1 : ∀ v ∈ O ++ [V.int ((10 ^ Int.toNat 30) - (n : Int) + 1)], Bd H7 (inRange 0 (top30 - (n : Int))) v := fun v hv => by
    rcases List.mem_append.mp hv with hv | hv
    · exact (hO6 0 (top30 - (n : Int)) (by decide) (by omega) v hv).same u2
    · rw [List.mem_singleton] at hv
      subst hv
      rw [f30]
      exact bd_int (Nat.lt_of_le_of_lt (show (top30 - (n : Int) + 1).natAbs ≤ 10 ^ 30 + 1 by omega) (by decide)) (out_in (.inr (by omega)))
  refine ⟨r, rfl, ⟨_, SqL.of hr1⟩, for_list (K := K) (a := r) (xs := O ++ [.int ((10 ^ Int.toNat 30) - (n : Int) + 1)]) (fun i σ H' => ∃ v4 v5 : Option V, σ = [some (.ref b), some (.int (n : Int)), some (.ref od), some (.int (10 ^ Int.toNat 30)), v4, v5, none, none, none] ∧ Same H7 H')
    ⟨_, _, rfl, Same.refl _⟩ (fun i σ H' _ ⟨_, _, _, s5⟩ => SqL.of (s5 _ _ hr1)) ?_ ?_⟩
  · rintro i x σ H8 hi ⟨v4, v5, rfl, sm1⟩
    obtain ⟨d, hd, td, nd, ird⟩ := (hB1 x (List.mem_of_getElem? hi)).same sm1
    have e1 : okShow [.int (n : Int), d, .none] := okShow_three tn td tiny_non (fun z => ⟨rfl, nd (by simpa [PyData.hasDict] using z), rfl⟩)
    have e2 : okShow [.int (n : Int), .int 1, d] := okShow_three tn (tiny_int (by decide)) td (fun z => ⟨rfl, rfl, nd (by simpa [PyData.hasDict] using z)⟩)
    have o1 : Out26 CS CN 0 (.int (n : Int)) x .non (some CN) := .inr (.inr (.inl ⟨rfl, rfl, n, rfl, n1, n30, ird⟩))
    have o2 : Out26 CS CN 1 (.int (n : Int)) (.int 1) x (some CN) := .inr (.inr (.inr (.inl ⟨rfl, rfl, n, rfl, n1, n30, .inr ⟨1, rfl, Nat.le_refl _, by decide, by
      rw [show (top30 - (n : Int)) / ((1 : Nat) : Int) = top30 - (n : Int) from Int.ediv_one _]; exact ird⟩⟩)))
    refine ⟨_, rfl, _, rfl, 0, .int (n : Int), x, .non, _, d, .none, _, "number", rfl, by decide, .int _, hd, .non, e1, o1, W2, fun H9 s9 => ?_⟩
    refine ⟨_, rfl, _, rfl, 1, .int (n : Int), .int 1, x, _, _, d, _, "number", rfl, by decide, .int _, .int _, hd.same s9, e2, o2, W2, fun H10 s10 => ?_⟩
    refine ⟨two, fun l3 nl3 => ⟨one1, fun l2 nl2 => ⟨l2, 2, _, rfl, rfl, upd_same, by decide, by decide, (by show 1 * 2 ≤ sizeLine; decide), fun p np => ?_⟩⟩⟩
    have x0 := same_upd (o := .lst [.str "number", .str "number"]) nl3
    have x1 := same_upd (o := .lst [.str "number"]) nl2
    have x2 := same_upd (o := .lst (List.replicate (Int.toNat 2) [V.str "number"]).flatten) np
    refine ⟨.list ((["number", "number"] : List Str).map PyData.str), .list ((["number", "number"] : List Str).map PyData.str), .lst (SqL.of (x2 _ _ (x1 _ _ upd_same))) (strs_dp ["number", "number"]), .lst (SqL.of upd_same) (strs_dp ["number", "number"]), shN2, shN2, ?_⟩
    rw [strs_same shN2]
    exact ⟨false, rfl, _, _, rfl, sm1.trans (s9.trans (s10.trans (x0.trans (x1.trans x2))))⟩
  rintro σ H8 ⟨v4, v5, rfl, sm1⟩
  have sH8 := sH6.trans (u2.trans sm1)
  clear hB1 hr1 u1 u2 hod6 hO6 kl kr hH1 sm1 sH6
  -- wrong steps
  refine ⟨one1, fun m4 k4 => ⟨one1, fun m5 k5 => fun m6 k6 => ⟨_, rfl, _, _, rfl, rfl, ⟨by decide, by decide, by decide⟩, _, _, rfl, rfl, (by show 10 ≤ sizeLine; decide), fun o2 ko2 => ?_⟩⟩⟩
  have s1 := same_upd (o := .lst [.int 1]) k4
  have s2 := same_upd (o := .tup [.int 1]) k5
  have s3 := same_upd (o := .dK []) k6
  generalize hH0 : upd (upd (upd (upd H8 m4 _) m5 _) m6 _) o2 _ = H9
  have s4 : Same (upd (upd (upd H8 m4 (.lst [.int 1])) m5 (.tup [.int 1])) m6 (.dK [])) H9 := by rw [← hH0]; exact same_upd ko2
  have ho2 : H9 o2 = some (.lst (odds2 m4 m5 m6)) := by rw [← hH0]; exact upd_same
  have s89 := s1.trans (s2.trans (s3.trans s4))
  have f1 := s4 _ _ (s3 _ _ (s2 _ _ (upd_same (H := H8) (a := m4) (o := .lst [.int 1]))))
  have f2 := s4 _ _ (s3 _ _ (upd_same (a := m5) (o := .tup [.int 1])))
  have f3 := s4 _ _ (upd_same (a := m6) (o := .dK []))
  have hB1 := bd_odds2 f1 f2 f3
  generalize odds2 m4 m5 m6 = O2 at ho2 hB1
  clear s1 s2 s3 s4 k4 k5 k6 ko2 hH0 f1 f2 f3
  refine ⟨o2, rfl, ⟨_, SqL.of ho2⟩, for_list (K := K) (a := o2) (xs := O2) (fun i σ H' => ∃ v4 v5 : Option V, σ = [some (.ref b), some (.int (n : Int)), some (.ref od), some (.int (10 ^ Int.toNat 30)), v4, v5, none, none, none] ∧ Same H9 H')
    ⟨_, _, rfl, Same.refl _⟩ (fun i σ H' _ ⟨_, _, _, s5⟩ => SqL.of (s5 _ _ ho2)) ?_ ?_⟩
  · rintro i x σ H10 hi ⟨v4, v5, rfl, sm1⟩
    obtain ⟨d, hd, td, nd, ird⟩ := (hB1 x (List.mem_of_getElem? hi)).same sm1
    have e1 : okShow [.int (n : Int), d, .int 0] := okShow_three tn td (tiny_int (by decide)) (fun z => ⟨rfl, nd (by simpa [PyData.hasDict] using z), rfl⟩)
    have e2 : okShow [.int (n : Int), d, .none] := okShow_three tn td tiny_non (fun z => ⟨rfl, nd (by simpa [PyData.hasDict] using z), rfl⟩)
    have oo : ∀ z : V, Out26 CS CN 1 (.int (n : Int)) x z (some CN) := fun z => .inr (.inr (.inr (.inl ⟨rfl, rfl, n, rfl, n1, n30, .inl ird⟩)))
    refine ⟨_, rfl, _, rfl, 1, .int (n : Int), x, .int 0, _, d, _, _, "number", rfl, by decide, .int _, hd, .int _, e1, oo _, W2, fun H11 s11 => ?_⟩
    refine ⟨_, rfl, _, rfl, 1, .int (n : Int), x, .non, _, d, _, _, "number", rfl, by decide, .int _, hd.same s11, .non, e2, oo _, W2, fun H12 s12 => ?_⟩
    refine ⟨two, fun l3 nl3 => ⟨one1, fun l2 nl2 => ⟨l2, 2, _, rfl, rfl, upd_same, by decide, by decide, (by show 1 * 2 ≤ sizeLine; decide), fun p np => ?_⟩⟩⟩
    have x0 := same_upd (o := .lst [.str "number", .str "number"]) nl3
    have x1 := same_upd (o := .lst [.str "number"]) nl2
    have x2 := same_upd (o := .lst (List.replicate (Int.toNat 2) [V.str "number"]).flatten) np
    refine ⟨.list ((["number", "number"] : List Str).map PyData.str), .list ((["number", "number"] : List Str).map PyData.str), .lst (SqL.of (x2 _ _ (x1 _ _ upd_same))) (strs_dp ["number", "number"]), .lst (SqL.of upd_same) (strs_dp ["number", "number"]), shN2, shN2, ?_⟩
    rw [strs_same shN2]
    exact ⟨false, rfl, _, _, rfl, sm1.trans (s11.trans (s12.trans (x0.trans (x1.trans x2))))⟩
  rintro σ H10 ⟨v4, v5, rfl, sm1⟩
  have sH10 := sH8.trans (s89.trans sm1)
  clear hB1 ho2 s89 sm1 sH8
  -- a drawn step
  have b10 := hb.same sH10
  refine ⟨_, rfl, _, rfl, b, _, c, rfl, by decide, by decide, b10, by omega, fun rr H11 rr1 k11 b11 => ⟨_, _, rfl, rfl, ?_⟩⟩
  have B11 : But b H H11 := fun a o na k => by rw [k11 a na]; exact sH10 a o k
  have rr2 : rr < 10 ^ 30 := by rw [f30] at rr1; omega
  dsimp only
  rw [show (1 : Int) + (rr : Int) = ((1 + rr : Nat) : Int) from rfl]
  have st1 : 1 ≤ 1 + rr := by omega
  have st30 : 1 + rr ≤ 10 ^ 30 := by omega
  generalize 1 + rr = st at st1 st30
  have st300 : st < 2 ^ 300 := Nat.lt_of_le_of_lt st30 (by decide)
  have st101 : st < 2 ^ 101 := Nat.lt_of_le_of_lt st30 (by decide)
  have dv : CDivW ((10 ^ Int.toNat 30) - (n : Int)) (st : Int) := wide_div (b := 300) (by omega) st300 (by decide) (by decide)
  have ed : ((10 ^ Int.toNat 30) - (n : Int)) / (st : Int) = (((10 ^ 30 - n) / st : Nat) : Int) := by
    rw [f30, show top30 - (n : Int) = ((10 ^ 30 - n : Nat) : Int) by omega]
    exact (Int.natCast_ediv _ _).symm
  have dq30 : (10 ^ 30 - n) / st ≤ 10 ^ 30 := Nat.le_trans (Nat.div_le_self _ _) (Nat.sub_le _ _)
  have dmul : st * ((10 ^ 30 - n) / st) ≤ 10 ^ 30 - n := Nat.mul_div_le _ _
  have ed2 : (top30 - (n : Int)) / (st : Int) = (((10 ^ 30 - n) / st : Nat) : Int) := by rw [← f30]; exact ed
  generalize (10 ^ 30 - n) / st = dq at ed ed2 dq30 dmul
  have tst : Tiny (.int (st : Int)) := tiny_int (Nat.lt_of_le_of_lt (show ((st : Int)).natAbs ≤ 10 ^ 30 from st30) (by decide))
  refine ⟨_, rfl, _, rfl, _, rfl, _, rfl, _, _, rfl, rfl, _, rfl, _, _, rfl, rfl, dv, _, _, rfl, rfl, ?_⟩
  dsimp only
  rw [ed]
  have tq1 : Tiny (.int ((dq : Int) + 1)) := tiny_int (Nat.lt_of_le_of_lt (show ((dq : Int) + 1).natAbs ≤ 10 ^ 30 + 1 by omega) (by decide))
  have tq : Tiny (.int (dq : Int)) := tiny_int (Nat.lt_of_le_of_lt (show ((dq : Int)).natAbs ≤ 10 ^ 30 from dq30) (by decide))
  have nod : ∀ a b c : Int, Tiny (.int a) → Tiny (.int b) → Tiny (.int c) → okShow [.int a, .int b, .int c] := fun a b c x y z => okShow_three x y z (fun _ => ⟨rfl, rfl, rfl⟩)
  refine ⟨1, .int (n : Int), .int (st : Int), .int ((dq : Int) + 1), _, _, _, _, "number", rfl, by decide, .int _, .int _, .int _, nod _ _ _ tn tst tq1, .inr (.inr (.inr (.inl ⟨rfl, rfl, n, rfl, n1, n30, .inr ⟨st, rfl, st1, st300, by rw [ed2]; exact out_in (.inr (by omega))⟩⟩))), W2, fun H12 s12 => ⟨rfl, false, ne_no rfl, ?_⟩⟩
  have fin1 : n + st * dq ≤ 10 ^ 30 := by omega
  -- right ones
  refine ⟨_, rfl, _, rfl, _, rfl, _, rfl, _, _, rfl, rfl, _, rfl, _, _, rfl, rfl, dv, ?_⟩
  dsimp only
  rw [ed]
  refine ⟨1, .int (n : Int), .int (st : Int), .int (dq : Int), _, _, _, _, "fine", rfl, by decide, .int _, .int _, .int _, nod _ _ _ tn tst tq, .inr (.inr (.inr (.inr ⟨rfl, n, rfl, n1, n30, .inr (.inl ⟨rfl, st, dq, rfl, rfl, st1, st101, fin1⟩)⟩))), W3, fun H13 s13 => ?_⟩
  refine ⟨_, rfl, _, _, rfl, rfl, ⟨by decide, by decide, by decide⟩, 1, .int (n : Int), .int (10 ^ Int.toNat 64), .int 0, _, _, _, _, "fine", rfl, by decide, .int _, .int _, .int _, nod _ _ _ tn (tiny_int (by decide)) (tiny_int (by decide)), .inr (.inr (.inr (.inr ⟨rfl, n, rfl, n1, n30, .inr (.inr (.inl ⟨rfl, 10 ^ 64, congrArg V.int (by decide), rfl, by decide, by decide⟩))⟩))), W3, fun H14 s14 => ⟨two, fun l1 nl1 => ?_⟩⟩
  have y1 := same_upd (o := .lst [.str "fine", .str "fine"]) nl1
  have hl1 : (upd H14 l1 (.lst [.str "fine", .str "fine"])) l1 = some (.lst [.str "fine", .str "fine"]) := upd_same
  generalize upd H14 l1 (.lst [.str "fine", .str "fine"]) = H15 at y1 hl1
  have B15 := B11.trans (But.of (b := b) (s12.trans (s13.trans (s14.trans y1))))
  have b15 := (((b11.same s12).same s13).same s14).same y1
  clear s12 s13 s14 y1 nl1
  have em : (10 ^ Int.toNat 30) - (n : Int) = ((10 ^ 30 - n : Nat) : Int) := by rw [f30]; omega
  have tm : Tiny (.int ((10 ^ Int.toNat 30) - (n : Int))) := tiny_int (by rw [em]; exact Nat.lt_of_le_of_lt (show 10 ^ 30 - n ≤ 10 ^ 30 from Nat.sub_le _ _) (by decide))
  have sh2 : ∀ a b : Int, Tiny (.int a) → Tiny (.int b) → okShow [.int a, .int b, .none] := fun a b x y => okShow_three x y tiny_non (fun _ => ⟨rfl, rfl, rfl⟩)
  refine ⟨_, rfl, _, rfl, _, rfl, _, rfl, _, _, rfl, rfl, 0, .int (n : Int), .int ((10 ^ Int.toNat 30) - (n : Int)), .non, _, _, _, _, "fine", rfl, by decide, .int _, .int _, .non, sh2 _ _ tn tm, .inr (.inr (.inr (.inr ⟨rfl, n, rfl, n1, n30, .inl ⟨rfl, 10 ^ 30 - n, congrArg V.int em, by omega⟩⟩))), W3, fun H16 s16 => ?_⟩
  refine ⟨_, rfl, 0, .int (n : Int), .int 0, .non, _, _, _, _, "fine", rfl, by decide, .int _, .int _, .non, sh2 _ _ tn (tiny_int (by decide)), .inr (.inr (.inr (.inr ⟨rfl, n, rfl, n1, n30, .inl ⟨rfl, 0, rfl, by omega⟩⟩))), W3, fun H17 s17 => ?_⟩
  refine ⟨_, rfl, 5, .int (n : Int), .non, .non, _, _, _, _, "fine", rfl, by decide, .int _, .non, .non, okShow_three tn tiny_non tiny_non (fun _ => ⟨rfl, rfl, rfl⟩), .inr (.inr (.inr (.inr ⟨rfl, n, rfl, n1, n30, .inr (.inr (.inr (.inr rfl)))⟩))), W3, fun H18 s18 => ⟨three, fun l2 nl2 => ?_⟩⟩
  have y2 := same_upd (o := .lst [.str "fine", .str "fine", .str "fine"]) nl2
  have s1518 := s16.trans (s17.trans s18)
  refine ⟨l1, l2, _, _, rfl, rfl, y2 _ _ (s1518 _ _ hl1), upd_same, szle (by decide), fun r5 nr5 => ?_⟩
  have y3 := same_upd (o := .lst ([.str "fine", .str "fine"] ++ [.str "fine", .str "fine", .str "fine"])) nr5
  generalize hH19 : upd (upd H18 l2 _) r5 _ = H19
  have s19 : Same H15 H19 := by rw [← hH19]; exact s1518.trans (y2.trans y3)
  have hr5 : H19 r5 = some (.lst [.str "fine", .str "fine", .str "fine", .str "fine", .str "fine"]) := by rw [← hH19]; exact upd_same
  have B19 := B15.trans (But.of (b := b) s19)
  have b19 := b15.same s19
  clear s16 s17 s18 y2 y3 s1518 hH19 nl2 nr5 hl1 s19
  -- a stretch to the end, and of one size
  have oh : ∀ (dr h : Nat) , 2 ≤ dr → dr ≤ 4 → n ≤ h → h ≤ 10 ^ 30 → Out26 CS CN dr (.int (n : Int)) (.int (h : Int)) .non none := fun dr h a b x y => .inr (.inr (.inr (.inr ⟨rfl, n, rfl, n1, n30, .inr (.inr (.inr (.inl ⟨a, b, h, rfl, x, y⟩)))⟩)))
  have ef : V.int (10 ^ Int.toNat 30) = V.int ((10 ^ 30 : Nat) : Int) := congrArg V.int (by decide)
  have ohF : ∀ dr : Nat, 2 ≤ dr → dr ≤ 4 → Out26 CS CN dr (.int (n : Int)) (.int (10 ^ Int.toNat 30)) .non none := fun dr a b => by rw [ef]; exact oh dr _ a b n30 (Nat.le_refl _)
  refine ⟨_, rfl, ?_⟩
  refine ⟨three, fun t2 kt2 => ?_⟩
  have y1 := same_upd (o := .tup [.int 2, .int 3, .int 4]) kt2
  have ht2 : (upd H19 t2 (.tup [.int 2, .int 3, .int 4])) t2 = some (.tup [.int 2, .int 3, .int 4]) := upd_same
  generalize upd H19 t2 (.tup [.int 2, .int 3, .int 4]) = Hd at y1 ht2
  refine ⟨t2, rfl, ⟨_, SqT.of ht2⟩, fun D nD => lc_tup (xs := [.int 2, .int 3, .int 4]) (fun i H' => Same Hd H' ∧ H' D = some (.lst (List.replicate i (V.str "fine")))) ⟨same_upd nD, upd_same⟩ (fun i H' _ ⟨k, _⟩ => SqT.of (k _ _ ht2)) ?_ ?_⟩
  · rintro i x6 H5 hi6 ⟨s5, hD⟩
    have il : i < 3 := (List.getElem?_eq_some_iff.mp hi6).1
    obtain ⟨dr, rfl, dr1, dr2⟩ := hdr x6 (List.mem_of_getElem? hi6)
    refine ⟨rfl, ?_⟩
    refine ⟨_, rfl, _, rfl, _, rfl, dr, .int (n : Int), .int (10 ^ Int.toNat 30), .non, _, _, .none, _, "fine", rfl, by omega, .int _, .int _, .non, sh2 _ _ tn (tiny_int (by decide)), ohF dr dr1 dr2, W3, fun H6 s6 => ?_⟩
    refine ⟨_, s6 _ _ hD, szlt (by rw [List.length_replicate]; omega), ?_, ?_⟩
    · exact fun a o k => by rw [upd_ne (ne_of_none k nD)]; exact s6 _ _ (s5 _ _ k)
    · rw [List.replicate_succ']
      exact upd_same
  rintro H5 ⟨s5, hD⟩
  have hD : H5 D = some (.lst [.str "fine", .str "fine", .str "fine"]) := hD
  refine ⟨r5, D, _, _, rfl, rfl, s5 _ _ (y1 _ _ hr5), hD, szle (by decide), fun r8 nr8 => ?_⟩
  have y3 := same_upd (o := .lst ([.str "fine", .str "fine", .str "fine", .str "fine", .str "fine"] ++ [.str "fine", .str "fine", .str "fine"])) nr8
  generalize hH20 : upd H5 r8 _ = H20
  have s20 : Same H19 H20 := by rw [← hH20]; exact y1.trans (s5.trans y3)
  have hr8 : H20 r8 = some (.lst [.str "fine", .str "fine", .str "fine", .str "fine", .str "fine", .str "fine", .str "fine", .str "fine"]) := by rw [← hH20]; exact upd_same
  have B20 := B19.trans (But.of (b := b) s20)
  have b20 := b19.same s20
  clear y1 y3 s5 hD ht2 nr8 hH20 hr5 s20 nD
  refine ⟨_, rfl, ?_⟩
  refine ⟨three, fun t2 kt2 => ?_⟩
  have y1 := same_upd (o := .tup [.int 2, .int 3, .int 4]) kt2
  have ht2 : (upd H20 t2 (.tup [.int 2, .int 3, .int 4])) t2 = some (.tup [.int 2, .int 3, .int 4]) := upd_same
  generalize upd H20 t2 (.tup [.int 2, .int 3, .int 4]) = He at y1 ht2
  refine ⟨t2, rfl, ⟨_, SqT.of ht2⟩, fun D nD => lc_tup (xs := [.int 2, .int 3, .int 4]) (fun i H' => Same He H' ∧ H' D = some (.lst (List.replicate i (V.str "fine")))) ⟨same_upd nD, upd_same⟩ (fun i H' _ ⟨k, _⟩ => SqT.of (k _ _ ht2)) ?_ ?_⟩
  · rintro i x6 H21 hi6 ⟨s5, hD⟩
    have il : i < 3 := (List.getElem?_eq_some_iff.mp hi6).1
    obtain ⟨dr, rfl, dr1, dr2⟩ := hdr x6 (List.mem_of_getElem? hi6)
    refine ⟨rfl, ?_⟩
    refine ⟨_, rfl, _, rfl, _, rfl, dr, .int (n : Int), .int (n : Int), .non, _, _, .none, _, "fine", rfl, by omega, .int _, .int _, .non, sh2 _ _ tn tn, oh dr n dr1 dr2 (Nat.le_refl _) n30, W3, fun H22 s6 => ?_⟩
    refine ⟨_, s6 _ _ hD, szlt (by rw [List.length_replicate]; omega), ?_, ?_⟩
    · exact fun a o k => by rw [upd_ne (ne_of_none k nD)]; exact s6 _ _ (s5 _ _ k)
    · rw [List.replicate_succ']
      exact upd_same
  rintro H21 ⟨s5, hD⟩
  have hD : H21 D = some (.lst [.str "fine", .str "fine", .str "fine"]) := hD
  refine ⟨r8, D, _, _, rfl, rfl, s5 _ _ (y1 _ _ hr8), hD, szle (by decide), fun r11 nr11 => ?_⟩
  have y3 := same_upd (o := .lst ([.str "fine", .str "fine", .str "fine", .str "fine", .str "fine", .str "fine", .str "fine", .str "fine"] ++ [.str "fine", .str "fine", .str "fine"])) nr11
  refine ⟨one1, fun l2 nl2 => ⟨l2, 11, _, rfl, rfl, upd_same, by decide, by decide, (by show 1 * 11 ≤ sizeLine; decide), fun p np => ?_⟩⟩
  have x1 := same_upd (o := .lst [.str "fine"]) nl2
  have x2 := same_upd (o := .lst (List.replicate (Int.toNat 11) [V.str "fine"]).flatten) np
  refine ⟨.list ((["fine", "fine", "fine", "fine", "fine", "fine", "fine", "fine", "fine", "fine", "fine"] : List Str).map PyData.str), .list ((["fine", "fine", "fine", "fine", "fine", "fine", "fine", "fine", "fine", "fine", "fine"] : List Str).map PyData.str), .lst (SqL.of (x2 _ _ (x1 _ _ upd_same))) (strs_dp ["fine", "fine", "fine", "fine", "fine", "fine", "fine", "fine", "fine", "fine", "fine"]), .lst (SqL.of upd_same) (strs_dp ["fine", "fine", "fine", "fine", "fine", "fine", "fine", "fine", "fine", "fine", "fine"]), shF11, shF11, ?_⟩
  rw [strs_same shF11]
  have sZ := y1.trans (s5.trans (y3.trans (x1.trans x2)))
  exact q _ (B20.trans (But.of (b := b) sZ)) (b20.same sZ)
end
end LT

namespace LT
open PySem PySem.Spec PyProof.Rows L2
theorem script_at {ns : List Int} {lo hi : Option Int} {i : Nat} {x : V} (h : (cutV (ns.map V.int) lo hi ++ [.int 0])[i]? = some x) : ∃ c : Int, x = .int c := by
  have m := List.mem_of_getElem? h
  rcases List.mem_append.mp m with m | m
  · unfold cutV at m
    have m2 := List.mem_of_mem_drop (List.mem_of_mem_take m)
    obtain ⟨c, _, e⟩ := List.mem_map.mp m2
    exact ⟨c, e.symm⟩
  · exact ⟨0, List.mem_singleton.mp m⟩
theorem sqSame {K : PySem.W.Frag} {H H' : Hp} {a : Addr} {xs : List V} (h : SqL K H a xs) (e : Same H H') : SqL K H' a xs :=
  h.elim (fun h => .inl (h.elim (fun h => .inl (e _ _ h)) fun ⟨o, h⟩ => .inr ⟨o, e _ _ h⟩)) fun h => .inr h
def spLaw (K : PySem.W.Frag) : Sp := fun vs H Q _ => ∃ (a : Addr) (ns : List Int), vs = [.ref a] ∧ SqL K H a (ns.map V.int) ∧ ns.length ≤ 63 ∧ ∀ H', Q (.bl true) H'
end LT

namespace LT
open PySem PySem.Spec PyProof.Rows L2
theorem turns_is (k : Int) (len : Nat) (h : 1 ≤ k) : ∃ m : Nat, m ≤ k.toNat ∧ (if (if (len : Int) < k then (len : Int) else k) > 1 then (if (len : Int) < k then (len : Int) else k) else 1) = (m : Int) := by
  refine ⟨(if (if (len : Int) < k then (len : Int) else k) > 1 then (if (len : Int) < k then (len : Int) else k) else 1).toNat, ?_, ?_⟩ <;> split <;> split <;> omega
section
variable {P : Program} {w : World} {K : PySem.W.Frag} {mg : Str → Option Value} {base : Heap}
theorem ok_law {f g1 g2 g3 g4 : Addr} {fd d1 d2 d3 d4 : FuncData} (F : Fun K "law" "law" sLaw f fd)
    (GLawWound : FnOk P w K mg base CX0 1 g1 d1 ["script", "k"] (spWound K)) (ALawWound : At K mg "_law_wound" g1 d1 ["script", "k"])
    (GLawRight : GOk P w K mg base 11 g2 d2 ["reel", "size"] spRight) (ALawRight : At K mg "_law_right" g2 d2 ["reel", "size"])
    (GLawSpin : FnOk P w K mg base CX0 1 g3 d3 ["reel", "many"] spSpin) (ALawSpin : At K mg "_law_spin" g3 d3 ["reel", "many"])
    (GLawDrawnSize : FnOk P w K mg base CX0 2 g4 d4 ["reel"] spDrawnSize) (ALawDrawnSize : At K mg "_law_drawn_size" g4 d4 ["reel"])
    (z_range : mg "range" = none) (z_len : mg "len" = none) (z_max : mg "max" = none) (z_min : mg "min" = none) : GOk P w K mg base 12 f fd ["script"] (spLaw K) := by
  refine okG F scLaw (fun vs H Q E h => ?_) (fun cdv A outer s H vs Q hg hr h => ?_)
  · obtain ⟨_, _, rfl, _⟩ := h
    rfl
  obtain ⟨a, ns, rfl, hS, h63, q⟩ := h
  refine ⟨_, (pss_cons (ps_for PassesOwn.never rfl (pi_range1 (by rfl) z_range (pa_cons (pe_callB (call_max2 rfl) (by rfl) z_max (by decide +kernel) (pa_cons pe_int (pa_cons (pe_callB (call_min2 rfl) (by rfl) z_min (by decide +kernel) (pa_cons pe_int (pa_cons (pe_callB call_len_seq (by rfl) z_len PySem.boot_len (pa_cons (pv 0) pa_nil)) pa_nil))) pa_nil))) pa_nil)) (pg_name (i := 1) scLaw.nd rfl (Or.inl rfl))
    (pss_cons (ps_set (i := 2) scLaw.nd rfl (Or.inl rfl) (pe_call GLawWound (hr.mono (by decide)) rfl ALawWound.m ALawWound.kp ALawWound.b .nil pass0 (pa_cons (pv 0) (pa_cons (pv 1) pa_nil))))
    (pss_one (ps_for PassesOwn.never rfl (pi_tup (pe_tup (pa_cons pe_int (pa_cons (pe_op op_add pe_int (pe_call GLawSpin (hr.mono (by decide)) rfl ALawSpin.m ALawSpin.kp ALawSpin.b .nil pass0 (pa_cons (pv 2) (pa_cons pe_int pa_nil)))) (pa_cons (pe_call GLawDrawnSize (hr.mono (by decide)) rfl ALawDrawnSize.m ALawDrawnSize.kp ALawDrawnSize.b .nil pass0 (pa_cons (pv 2) pa_nil)) (pa_cons (pe_op op_pow pe_int pe_int) pa_nil)))))) (pg_name (i := 3) scLaw.nd rfl (Or.inl rfl))
    (pss_one (ps_if (pt_not (pt_val (pe_callG GLawRight hg (hr.mono (by decide)) rfl ALawRight.m ALawRight.kp ALawRight.b (pa_cons (pv 2) (pa_cons (pv 3) pa_nil)))))
    (pss_one (ps_ret pe_bl))
    pss_nil))))))
    (pss_one (ps_ret pe_bl))), ?_⟩
  have four : 4 ≤ sizeLine := by decide
  obtain ⟨m, m6, em⟩ := turns_is 6 (ns.map V.int).length (by decide)
  refine ⟨_, rfl, a, _, rfl, .inl hS, _, _, rfl, _, _, rfl, ?_⟩
  refine ⟨(m : Int), congrArg (fun z => [V.int z]) em, by omega, by omega, for_range (lo := 0) (n := m) (fun i σ H' => ∃ v1 v2 v3 : Option V, σ = [some (.ref a), v1, v2, v3] ∧ Same H H') ⟨none, none, none, rfl, Same.refl _⟩ ?_ ?_⟩
  · rintro k σ H2 hk ⟨v1, v2, v3, rfl, s2⟩
    have ek : (0 : Int) + (k : Int) = ((k : Nat) : Int) := by omega
    rw [ek]
    refine ⟨_, rfl, _, rfl, a, ns, k, rfl, sqSame hS s2, by omega, fun H3 b s3 nb hb => ?_⟩
    have nb1 : H b = none := s2.free nb
    have s23 := s2.trans s3
    refine ⟨_, rfl, b, 30, _, rfl, by decide, by decide, hb, by omega, fun r1 H4 r11 k4 b4 => ⟨_, _, rfl, rfl, ?_⟩⟩
    refine ⟨_, rfl, b, _, rfl, b4, by omega, fun n0 H5 n01 n030 B5 b5 => ⟨_, _, rfl, rfl, ⟨by decide, by decide, by decide⟩, four, fun t kt => ?_⟩⟩
    have B4 : But b H H4 := fun a o na k => by rw [k4 a na]; exact s23 a o k
    have B5' := B4.trans B5
    have b5' := b5.mono (show 0 + 1 + 5 ≤ 100 by decide)
    have w1 := same_upd (o := .tup [.int 1, .int (1 + (r1 : Int)), .int (n0 : Int), .int (10 ^ Int.toNat 30)]) kt
    have ht : (upd H5 t (.tup [.int 1, .int (1 + (r1 : Int)), .int (n0 : Int), .int (10 ^ Int.toNat 30)])) t = some (.tup [.int 1, .int (1 + (r1 : Int)), .int (n0 : Int), .int (10 ^ Int.toNat 30)]) := upd_same
    have B6 := B5'.trans (But.of (b := b) w1)
    have b6 := b5'.same w1
    have tb := b5'.ne kt
    generalize upd H5 t (.tup [.int 1, .int (1 + (r1 : Int)), .int (n0 : Int), .int (10 ^ Int.toNat 30)]) = H6 at ht B6 b6
    have hv : ∀ y ∈ [V.int 1, V.int (1 + (r1 : Int)), V.int (n0 : Int), V.int (10 ^ Int.toNat 30)], ∃ e : Nat, y = .int (e : Int) ∧ 1 ≤ e ∧ e ≤ 10 ^ 30 := by
      intro y hy
      simp only [List.mem_cons, List.not_mem_nil, or_false] at hy
      rcases hy with rfl | rfl | rfl | rfl
      · exact ⟨1, rfl, by decide, by decide⟩
      · exact ⟨1 + r1, rfl, by omega, Nat.le_trans (show 1 + r1 ≤ 100 by omega) (by decide)⟩
      · exact ⟨n0, rfl, n01, n030⟩
      · exact ⟨10 ^ 30, congrArg V.int (by decide), by decide, Nat.le_refl _⟩
    refine ⟨t, rfl, ⟨_, SqT.of ht⟩, for_tup (K := K) (a := t) (xs := [.int 1, .int (1 + (r1 : Int)), .int (n0 : Int), .int (10 ^ Int.toNat 30)]) (fun i σ H' => ∃ v3 : Option V, σ = [some (.ref a), some (.int (k : Int)), some (.ref b), v3] ∧ But b H6 H' ∧ ReelAt H' b (100 + i))
      ⟨v3, rfl, But.refl b H6, b6⟩ (fun i σ H' _ ⟨_, _, B, _⟩ => SqT.of (B _ _ tb ht)) ?_ ?_⟩
    · rintro i x σ H7 hi ⟨v3, rfl, B7, b7⟩
      have il : i < 4 := (List.getElem?_eq_some_iff.mp hi).1
      obtain ⟨e, rfl, e1, e30⟩ := hv x (List.mem_of_getElem? hi)
      refine ⟨_, rfl, _, rfl, b, _, e, rfl, b7, by omega, e1, e30, fun H8 B8 b8 => ⟨true, rfl, ?_⟩⟩
      exact ⟨_, rfl, B7.trans B8, b8⟩
    · rintro σ H7 ⟨v3, rfl, B7, b7⟩
      exact ⟨_, _, _, rfl, fun u o z => (B6.trans B7) _ _ (ne_of_none z nb1) z⟩
  · rintro σ H2 ⟨v1, v2, v3, rfl, s2⟩
    exact q _
end
end LT

namespace LT
open PySem PySem.Spec PyProof.Rows L2
/-- isinstance of an own class, from what the top says of it -/
theorem kit_of {K : PySem.W.Frag} {C D : Addr} {b : Bool} (i : PySem.W.isClsIn K D = true) (t : PySem.W.typeIn K (.ref D) = some (.type "type")) (s : PySem.W.subIn K (.ref C) (.ref D) = some b) (z : PySem.W.subIn K (.ref C) (.ref C) = some true) : PySem.W.kitOne K (.ref C) (.ref D) = some b := by
  unfold PySem.W.kitOne
  split
  · rename_i h
    have e : C = D := Value.ref.inj (beq_iff_eq.mp h)
    subst e
    rw [z] at s
    exact s
  · show (if ((PySem.W.clsIn K D).isSome && PySem.W.typeIn K (.ref D) == some (.type "type")) = true then PySem.W.subIn K (.ref C) (.ref D) else none) = some b
    have i' : (PySem.W.clsIn K D).isSome = true := i
    have e : ((PySem.W.clsIn K D).isSome && PySem.W.typeIn K (.ref D) == some (.type "type")) = true := by rw [i', t] <;> rfl
    rw [if_pos e]
    exact s
theorem kit_ty0 {K : PySem.W.Frag} {C : Addr} {T : String} {b : Bool} (m : PySem.W.kitMeta T = true) (s : PySem.W.subIn K (.ref C) (.type T) = some b) : PySem.W.kitOne K (.ref C) (.type T) = some b := by
  unfold PySem.W.kitOne
  rw [if_neg (by intro h; exact absurd (beq_iff_eq.mp h) (fun z => nomatch z))]
  show (if PySem.W.kitMeta T = true then PySem.W.subIn K (.ref C) (.type T) else none) = some b
  rw [if_pos m]
  exact s
theorem all_mk {l : PySem.W.OpenLaw} {w : World} {K : PySem.W.Frag} {h : Heap} {mg : Str → Option Value} {fa f0 f1 f2 f3 f4 f5 f6 f7 f8 f9 f10 f11 f12 f13 f14 f15 f16 f17 f18 f19 f20 f21 f22 f23 f24 f25 f26 : Addr} (X : K.In h) (G : h.Ns mainGlobals mg) (hfa : mg "law" = some (.ref fa))
    {od0 an0 od1 an1 od2 an2 od3 an3 od4 an4 od5 an5 od6 an6 od7 an7 od8 an8 od9 an9 od10 an10 od11 an11 od12 an12 od13 an13 od14 an14 od15 an15 od16 an16 od17 an17 od18 an18 od19 an19 od20 an20 od21 an21 od22 an22 od23 an23 od24 an24 od25 an25 od26 an26 : Option Addr} {sl0 sl1 sl2 sl3 sl4 sl5 sl6 sl7 sl8 sl9 sl10 sl11 sl12 sl13 sl14 sl15 sl16 sl17 sl18 sl19 sl20 sl21 sl22 sl23 sl24 sl25 sl26 : Array (Option Value)} {oc0 kV0 dc0 pm0 cd0 ct0 oc1 kV1 dc1 pm1 cd1 ct1 oc2 kV2 dc2 pm2 cd2 ct2 oc3 kV3 dc3 pm3 cd3 ct3 oc4 kV4 dc4 pm4 cd4 ct4 oc5 kV5 dc5 pm5 cd5 ct5 oc6 kV6 dc6 pm6 cd6 ct6 oc7 kV7 dc7 pm7 cd7 ct7 oc8 kV8 dc8 pm8 cd8 ct8 oc9 kV9 dc9 pm9 cd9 ct9 oc10 kV10 dc10 pm10 cd10 ct10 oc11 kV11 dc11 pm11 cd11 ct11 oc12 kV12 dc12 pm12 cd12 ct12 oc13 kV13 dc13 pm13 cd13 ct13 oc14 kV14 dc14 pm14 cd14 ct14 oc15 kV15 dc15 pm15 cd15 ct15 oc16 kV16 dc16 pm16 cd16 ct16 oc17 kV17 dc17 pm17 cd17 ct17 oc18 kV18 dc18 pm18 cd18 ct18 oc19 kV19 dc19 pm19 cd19 ct19 oc20 kV20 dc20 pm20 cd20 ct20 oc21 kV21 dc21 pm21 cd21 ct21 oc22 kV22 dc22 pm22 cd22 ct22 oc23 kV23 dc23 pm23 cd23 ct23 oc24 kV24 dc24 pm24 cd24 ct24 oc25 kV25 dc25 pm25 cd25 ct25 oc26 kV26 dc26 pm26 cd26 ct26 : Value}
    (a0 : PySem.W.nsIn K mainGlobals "is_whole" = some (some (.ref f0))) (l0 : K.lookup f0 = some ⟨oc0, od0, .func (PySem.W.fnOf "is_whole" "is_whole" (defArgs sIsWhole) (defBody sIsWhole) (defScope sIsWhole) .none kV0 dc0 pm0 an0 cd0 ct0), sl0⟩) (c0 : PySem.W.codeIn K cd0 "is_whole" = true) (k0 : PySem.W.keepIn K (.ref f0) = true)
    (a1 : PySem.W.nsIn K mainGlobals "is_between" = some (some (.ref f1))) (l1 : K.lookup f1 = some ⟨oc1, od1, .func (PySem.W.fnOf "is_between" "is_between" (defArgs sIsBetween) (defBody sIsBetween) (defScope sIsBetween) .none kV1 dc1 pm1 an1 cd1 ct1), sl1⟩) (c1 : PySem.W.codeIn K cd1 "is_between" = true) (k1 : PySem.W.keepIn K (.ref f1) = true)
    (a2 : PySem.W.nsIn K mainGlobals "check_size" = some (some (.ref f2))) (l2 : K.lookup f2 = some ⟨oc2, od2, .func (PySem.W.fnOf "check_size" "check_size" (defArgs sCheckSize) (defBody sCheckSize) (defScope sCheckSize) .none kV2 dc2 pm2 an2 cd2 ct2), sl2⟩) (c2 : PySem.W.codeIn K cd2 "check_size" = true) (k2 : PySem.W.keepIn K (.ref f2) = true)
    (a3 : PySem.W.nsIn K mainGlobals "check_number_from" = some (some (.ref f3))) (l3 : K.lookup f3 = some ⟨oc3, od3, .func (PySem.W.fnOf "check_number_from" "check_number_from" (defArgs sCheckNumberFrom) (defBody sCheckNumberFrom) (defScope sCheckNumberFrom) .none kV3 dc3 pm3 an3 cd3 ct3), sl3⟩) (c3 : PySem.W.codeIn K cd3 "check_number_from" = true) (k3 : PySem.W.keepIn K (.ref f3) = true)
    (a4 : PySem.W.nsIn K mainGlobals "check_number_between" = some (some (.ref f4))) (l4 : K.lookup f4 = some ⟨oc4, od4, .func (PySem.W.fnOf "check_number_between" "check_number_between" (defArgs sCheckNumberBetween) (defBody sCheckNumberBetween) (defScope sCheckNumberBetween) .none kV4 dc4 pm4 an4 cd4 ct4), sl4⟩) (c4 : PySem.W.codeIn K cd4 "check_number_between" = true) (k4 : PySem.W.keepIn K (.ref f4) = true)
    (a5 : PySem.W.nsIn K mainGlobals "power_within" = some (some (.ref f5))) (l5 : K.lookup f5 = some ⟨oc5, od5, .func (PySem.W.fnOf "power_within" "power_within" (defArgs sPowerWithin) (defBody sPowerWithin) (defScope sPowerWithin) .none kV5 dc5 pm5 an5 cd5 ct5), sl5⟩) (c5 : PySem.W.codeIn K cd5 "power_within" = true) (k5 : PySem.W.keepIn K (.ref f5) = true)
    (a6 : PySem.W.nsIn K mainGlobals "peaks" = some (some (.ref f6))) (l6 : K.lookup f6 = some ⟨oc6, od6, .func (PySem.W.fnOf "peaks" "peaks" (defArgs sPeaks) (defBody sPeaks) (defScope sPeaks) .none kV6 dc6 pm6 an6 cd6 ct6), sl6⟩) (c6 : PySem.W.codeIn K cd6 "peaks" = true) (k6 : PySem.W.keepIn K (.ref f6) = true)
    (a7 : PySem.W.nsIn K mainGlobals "edges" = some (some (.ref f7))) (l7 : K.lookup f7 = some ⟨oc7, od7, .func (PySem.W.fnOf "edges" "edges" (defArgs sEdges) (defBody sEdges) (defScope sEdges) .none kV7 dc7 pm7 an7 cd7 ct7), sl7⟩) (c7 : PySem.W.codeIn K cd7 "edges" = true) (k7 : PySem.W.keepIn K (.ref f7) = true)
    (a8 : PySem.W.nsIn K mainGlobals "_made_sums" = some (some (.ref f8))) (l8 : K.lookup f8 = some ⟨oc8, od8, .func (PySem.W.fnOf "_made_sums" "_made_sums" (defArgs sMadeSums) (defBody sMadeSums) (defScope sMadeSums) .none kV8 dc8 pm8 an8 cd8 ct8), sl8⟩) (c8 : PySem.W.codeIn K cd8 "_made_sums" = true) (k8 : PySem.W.keepIn K (.ref f8) = true)
    (a9 : PySem.W.nsIn K mainGlobals "append_sums" = some (some (.ref f9))) (l9 : K.lookup f9 = some ⟨oc9, od9, .func (PySem.W.fnOf "append_sums" "append_sums" (defArgs sAppendSums) (defBody sAppendSums) (defScope sAppendSums) .none kV9 dc9 pm9 an9 cd9 ct9), sl9⟩) (c9 : PySem.W.codeIn K cd9 "append_sums" = true) (k9 : PySem.W.keepIn K (.ref f9) = true)
    (a10 : PySem.W.nsIn K mainGlobals "root_sums" = some (some (.ref f10))) (l10 : K.lookup f10 = some ⟨oc10, od10, .func (PySem.W.fnOf "root_sums" "root_sums" (defArgs sRootSums) (defBody sRootSums) (defScope sRootSums) .none kV10 dc10 pm10 an10 cd10 ct10), sl10⟩) (c10 : PySem.W.codeIn K cd10 "root_sums" = true) (k10 : PySem.W.keepIn K (.ref f10) = true)
    (a11 : PySem.W.nsIn K mainGlobals "_quotients_sum" = some (some (.ref f11))) (l11 : K.lookup f11 = some ⟨oc11, od11, .func (PySem.W.fnOf "_quotients_sum" "_quotients_sum" (defArgs sQuotientsSum) (defBody sQuotientsSum) (defScope sQuotientsSum) .none kV11 dc11 pm11 an11 cd11 ct11), sl11⟩) (c11 : PySem.W.codeIn K cd11 "_quotients_sum" = true) (k11 : PySem.W.keepIn K (.ref f11) = true)
    (a12 : PySem.W.nsIn K mainGlobals "_roots_along" = some (some (.ref f12))) (l12 : K.lookup f12 = some ⟨oc12, od12, .func (PySem.W.fnOf "_roots_along" "_roots_along" (defArgs sRootsAlong) (defBody sRootsAlong) (defScope sRootsAlong) .none kV12 dc12 pm12 an12 cd12 ct12), sl12⟩) (c12 : PySem.W.codeIn K cd12 "_roots_along" = true) (k12 : PySem.W.keepIn K (.ref f12) = true)
    (a13 : PySem.W.nsIn K mainGlobals "_check_stretch" = some (some (.ref f13))) (l13 : K.lookup f13 = some ⟨oc13, od13, .func (PySem.W.fnOf "_check_stretch" "_check_stretch" (defArgs sCheckStretch) (defBody sCheckStretch) (defScope sCheckStretch) .none kV13 dc13 pm13 an13 cd13 ct13), sl13⟩) (c13 : PySem.W.codeIn K cd13 "_check_stretch" = true) (k13 : PySem.W.keepIn K (.ref f13) = true)
    (a14 : PySem.W.nsIn K mainGlobals "roots_total" = some (some (.ref f14))) (l14 : K.lookup f14 = some ⟨oc14, od14, .func (PySem.W.fnOf "roots_total" "roots_total" (defArgs sRootsTotal) (defBody sRootsTotal) (defScope sRootsTotal) .none kV14 dc14 pm14 an14 cd14 ct14), sl14⟩) (c14 : PySem.W.codeIn K cd14 "roots_total" = true) (k14 : PySem.W.keepIn K (.ref f14) = true)
    (a15 : PySem.W.nsIn K mainGlobals "roots_by_steps" = some (some (.ref f15))) (l15 : K.lookup f15 = some ⟨oc15, od15, .func (PySem.W.fnOf "roots_by_steps" "roots_by_steps" (defArgs sRootsBySteps) (defBody sRootsBySteps) (defScope sRootsBySteps) .none kV15 dc15 pm15 an15 cd15 ct15), sl15⟩) (c15 : PySem.W.codeIn K cd15 "roots_by_steps" = true) (k15 : PySem.W.keepIn K (.ref f15) = true)
    (a16 : PySem.W.nsIn K mainGlobals "cheapest" = some (some (.ref f16))) (l16 : K.lookup f16 = some ⟨oc16, od16, .func (PySem.W.fnOf "cheapest" "cheapest" (defArgs sCheapest) (defBody sCheapest) (defScope sCheapest) .none kV16 dc16 pm16 an16 cd16 ct16), sl16⟩) (c16 : PySem.W.codeIn K cd16 "cheapest" = true) (k16 : PySem.W.keepIn K (.ref f16) = true)
    (a17 : PySem.W.nsIn K mainGlobals "costliest" = some (some (.ref f17))) (l17 : K.lookup f17 = some ⟨oc17, od17, .func (PySem.W.fnOf "costliest" "costliest" (defArgs sCostliest) (defBody sCostliest) (defScope sCostliest) .none kV17 dc17 pm17 an17 cd17 ct17), sl17⟩) (c17 : PySem.W.codeIn K cd17 "costliest" = true) (k17 : PySem.W.keepIn K (.ref f17) = true)
    (a18 : PySem.W.nsIn K mainGlobals "_law_wound" = some (some (.ref f18))) (l18 : K.lookup f18 = some ⟨oc18, od18, .func (PySem.W.fnOf "_law_wound" "_law_wound" (defArgs sLawWound) (defBody sLawWound) (defScope sLawWound) .none kV18 dc18 pm18 an18 cd18 ct18), sl18⟩) (c18 : PySem.W.codeIn K cd18 "_law_wound" = true) (k18 : PySem.W.keepIn K (.ref f18) = true)
    (a19 : PySem.W.nsIn K mainGlobals "_law_spin" = some (some (.ref f19))) (l19 : K.lookup f19 = some ⟨oc19, od19, .func (PySem.W.fnOf "_law_spin" "_law_spin" (defArgs sLawSpin) (defBody sLawSpin) (defScope sLawSpin) .none kV19 dc19 pm19 an19 cd19 ct19), sl19⟩) (c19 : PySem.W.codeIn K cd19 "_law_spin" = true) (k19 : PySem.W.keepIn K (.ref f19) = true)
    (a20 : PySem.W.nsIn K mainGlobals "_law_drawn_size" = some (some (.ref f20))) (l20 : K.lookup f20 = some ⟨oc20, od20, .func (PySem.W.fnOf "_law_drawn_size" "_law_drawn_size" (defArgs sLawDrawnSize) (defBody sLawDrawnSize) (defScope sLawDrawnSize) .none kV20 dc20 pm20 an20 cd20 ct20), sl20⟩) (c20 : PySem.W.codeIn K cd20 "_law_drawn_size" = true) (k20 : PySem.W.keepIn K (.ref f20) = true)
    (a21 : PySem.W.nsIn K mainGlobals "_law_told_kind" = some (some (.ref f21))) (l21 : K.lookup f21 = some ⟨oc21, od21, .func (PySem.W.fnOf "_law_told_kind" "_law_told_kind" (defArgs sLawToldKind) (defBody sLawToldKind) (defScope sLawToldKind) .none kV21 dc21 pm21 an21 cd21 ct21), sl21⟩) (c21 : PySem.W.codeIn K cd21 "_law_told_kind" = true) (k21 : PySem.W.keepIn K (.ref f21) = true)
    (a22 : PySem.W.nsIn K mainGlobals "_law_kinds" = some (some (.ref f22))) (l22 : K.lookup f22 = some ⟨oc22, od22, .func (PySem.W.fnOf "_law_kinds" "_law_kinds" (defArgs sLawKinds) (defBody sLawKinds) (defScope sLawKinds) .none kV22 dc22 pm22 an22 cd22 ct22), sl22⟩) (c22 : PySem.W.codeIn K cd22 "_law_kinds" = true) (k22 : PySem.W.keepIn K (.ref f22) = true)
    (a23 : PySem.W.nsIn K mainGlobals "_law_called" = some (some (.ref f23))) (l23 : K.lookup f23 = some ⟨oc23, od23, .func (PySem.W.fnOf "_law_called" "_law_called" (defArgs sLawCalled) (defBody sLawCalled) (defScope sLawCalled) .none kV23 dc23 pm23 an23 cd23 ct23), sl23⟩) (c23 : PySem.W.codeIn K cd23 "_law_called" = true) (k23 : PySem.W.keepIn K (.ref f23) = true)
    (a24 : PySem.W.nsIn K mainGlobals "_law_told" = some (some (.ref f24))) (l24 : K.lookup f24 = some ⟨oc24, od24, .func (PySem.W.fnOf "_law_told" "_law_told" (defArgs sLawTold) (defBody sLawTold) (defScope sLawTold) .none kV24 dc24 pm24 an24 cd24 ct24), sl24⟩) (c24 : PySem.W.codeIn K cd24 "_law_told" = true) (k24 : PySem.W.keepIn K (.ref f24) = true)
    (a25 : PySem.W.nsIn K mainGlobals "_law_right" = some (some (.ref f25))) (l25 : K.lookup f25 = some ⟨oc25, od25, .func (PySem.W.fnOf "_law_right" "_law_right" (defArgs sLawRight) (defBody sLawRight) (defScope sLawRight) .none kV25 dc25 pm25 an25 cd25 ct25), sl25⟩) (c25 : PySem.W.codeIn K cd25 "_law_right" = true) (k25 : PySem.W.keepIn K (.ref f25) = true)
    (a26 : PySem.W.nsIn K mainGlobals "law" = some (some (.ref f26))) (l26 : K.lookup f26 = some ⟨oc26, od26, .func (PySem.W.fnOf "law" "law" (defArgs sLaw) (defBody sLaw) (defScope sLaw) .none kV26 dc26 pm26 an26 cd26 ct26), sl26⟩) (c26 : PySem.W.codeIn K cd26 "law" = true) (k26 : PySem.W.keepIn K (.ref f26) = true)
    (z_ValueError : PySem.W.nsIn K mainGlobals "ValueError" = some none)
    (z_bool : PySem.W.nsIn K mainGlobals "bool" = some none)
    (z_int : PySem.W.nsIn K mainGlobals "int" = some none)
    (z_isinstance : PySem.W.nsIn K mainGlobals "isinstance" = some none)
    (z_len : PySem.W.nsIn K mainGlobals "len" = some none)
    (z_max : PySem.W.nsIn K mainGlobals "max" = some none)
    (z_min : PySem.W.nsIn K mainGlobals "min" = some none)
    (z_range : PySem.W.nsIn K mainGlobals "range" = some none)
    (z_repr : PySem.W.nsIn K mainGlobals "repr" = some none)
    {t_MOST_ENTRIES : Tok} (g_MOST_ENTRIES : PySem.W.nsIn K mainGlobals "MOST_ENTRIES" = some (some (.int 1000000000000000000000000000000 t_MOST_ENTRIES)))
    {CInvalidSpans CInvalidNodes CInvalidBounds CInvalidText COverBudget CInvalidSize CInvalidEntry CInvalidNode CInvalidSpan CInvalidNumber CInvalidHeight CInvalidBudget CInvalidOperation CNothing CInvalidCommand CLogError : Addr}
    (n_InvalidSpans : PySem.W.nsIn K mainGlobals "InvalidSpans" = some (some (.ref CInvalidSpans)))
    (i_InvalidSpans : PySem.W.isClsIn K CInvalidSpans = true)
    (t_InvalidSpans : PySem.W.typeIn K (.ref CInvalidSpans) = some (.type "type"))
    (n_InvalidNodes : PySem.W.nsIn K mainGlobals "InvalidNodes" = some (some (.ref CInvalidNodes)))
    (i_InvalidNodes : PySem.W.isClsIn K CInvalidNodes = true)
    (t_InvalidNodes : PySem.W.typeIn K (.ref CInvalidNodes) = some (.type "type"))
    (n_InvalidBounds : PySem.W.nsIn K mainGlobals "InvalidBounds" = some (some (.ref CInvalidBounds)))
    (i_InvalidBounds : PySem.W.isClsIn K CInvalidBounds = true)
    (t_InvalidBounds : PySem.W.typeIn K (.ref CInvalidBounds) = some (.type "type"))
    (n_InvalidText : PySem.W.nsIn K mainGlobals "InvalidText" = some (some (.ref CInvalidText)))
    (i_InvalidText : PySem.W.isClsIn K CInvalidText = true)
    (t_InvalidText : PySem.W.typeIn K (.ref CInvalidText) = some (.type "type"))
    (n_OverBudget : PySem.W.nsIn K mainGlobals "OverBudget" = some (some (.ref COverBudget)))
    (i_OverBudget : PySem.W.isClsIn K COverBudget = true)
    (t_OverBudget : PySem.W.typeIn K (.ref COverBudget) = some (.type "type"))
    (n_InvalidSize : PySem.W.nsIn K mainGlobals "InvalidSize" = some (some (.ref CInvalidSize)))
    (i_InvalidSize : PySem.W.isClsIn K CInvalidSize = true)
    (t_InvalidSize : PySem.W.typeIn K (.ref CInvalidSize) = some (.type "type"))
    (n_InvalidEntry : PySem.W.nsIn K mainGlobals "InvalidEntry" = some (some (.ref CInvalidEntry)))
    (i_InvalidEntry : PySem.W.isClsIn K CInvalidEntry = true)
    (t_InvalidEntry : PySem.W.typeIn K (.ref CInvalidEntry) = some (.type "type"))
    (n_InvalidNode : PySem.W.nsIn K mainGlobals "InvalidNode" = some (some (.ref CInvalidNode)))
    (i_InvalidNode : PySem.W.isClsIn K CInvalidNode = true)
    (t_InvalidNode : PySem.W.typeIn K (.ref CInvalidNode) = some (.type "type"))
    (n_InvalidSpan : PySem.W.nsIn K mainGlobals "InvalidSpan" = some (some (.ref CInvalidSpan)))
    (i_InvalidSpan : PySem.W.isClsIn K CInvalidSpan = true)
    (t_InvalidSpan : PySem.W.typeIn K (.ref CInvalidSpan) = some (.type "type"))
    (n_InvalidNumber : PySem.W.nsIn K mainGlobals "InvalidNumber" = some (some (.ref CInvalidNumber)))
    (i_InvalidNumber : PySem.W.isClsIn K CInvalidNumber = true)
    (t_InvalidNumber : PySem.W.typeIn K (.ref CInvalidNumber) = some (.type "type"))
    (n_InvalidHeight : PySem.W.nsIn K mainGlobals "InvalidHeight" = some (some (.ref CInvalidHeight)))
    (i_InvalidHeight : PySem.W.isClsIn K CInvalidHeight = true)
    (t_InvalidHeight : PySem.W.typeIn K (.ref CInvalidHeight) = some (.type "type"))
    (n_InvalidBudget : PySem.W.nsIn K mainGlobals "InvalidBudget" = some (some (.ref CInvalidBudget)))
    (i_InvalidBudget : PySem.W.isClsIn K CInvalidBudget = true)
    (t_InvalidBudget : PySem.W.typeIn K (.ref CInvalidBudget) = some (.type "type"))
    (n_InvalidOperation : PySem.W.nsIn K mainGlobals "InvalidOperation" = some (some (.ref CInvalidOperation)))
    (i_InvalidOperation : PySem.W.isClsIn K CInvalidOperation = true)
    (t_InvalidOperation : PySem.W.typeIn K (.ref CInvalidOperation) = some (.type "type"))
    (n_Nothing : PySem.W.nsIn K mainGlobals "Nothing" = some (some (.ref CNothing)))
    (i_Nothing : PySem.W.isClsIn K CNothing = true)
    (t_Nothing : PySem.W.typeIn K (.ref CNothing) = some (.type "type"))
    (n_InvalidCommand : PySem.W.nsIn K mainGlobals "InvalidCommand" = some (some (.ref CInvalidCommand)))
    (i_InvalidCommand : PySem.W.isClsIn K CInvalidCommand = true)
    (t_InvalidCommand : PySem.W.typeIn K (.ref CInvalidCommand) = some (.type "type"))
    (n_LogError : PySem.W.nsIn K mainGlobals "LogError" = some (some (.ref CLogError)))
    (i_LogError : PySem.W.isClsIn K CLogError = true)
    (t_LogError : PySem.W.typeIn K (.ref CLogError) = some (.type "type"))
    (b_LogError : PySem.W.subIn K (.ref CLogError) (.type "BaseException") = some true)
    (d_LogError : PySem.W.hasDictIn K CLogError = true)
    (x_n : PySem.W.specialIn K (.builtin "object.__class__") "__get__" = some (some (.builtin "getset_descriptor.__get__")))
    (x_t : PySem.W.takesIn K (.builtin "object.__class__") = some true)
    (k_InvalidSize : PySem.W.keepIn K (.ref CInvalidSize) = true)
    (q_InvalidSize : PySem.W.excIn K CInvalidSize [.type "ValueError", .type "Exception", .type "BaseException", .type "object"] "ValueError.__new__" = true)
    (b_InvalidSize : PySem.W.subIn K (.ref CInvalidSize) (.type "BaseException") = some true)
    (g_InvalidSize : PySem.W.findIn K (.ref CInvalidSize) "__getattribute__" = some (some (.builtin "BaseException.__getattribute__")))
    (a_InvalidSize : PySem.W.findIn K (.ref CInvalidSize) "__getattr__" = some none)
    (d_InvalidSize : PySem.W.hasDictIn K CInvalidSize = true)
    (c_InvalidSize : PySem.W.findIn K (.ref CInvalidSize) "__class__" = some (some (.builtin "object.__class__")))
    (m_InvalidSize : PySem.W.mroIn K CInvalidSize (.type "object") = some true)
    (v_InvalidSize : PySem.W.subIn K (.ref CInvalidSize) (.type "ValueError") = some true)
    (l_InvalidSize : PySem.W.subIn K (.ref CInvalidSize) (.ref CLogError) = some true)
    (s_InvalidSize_InvalidSpans : PySem.W.subIn K (.ref CInvalidSize) (.ref CInvalidSpans) = some false)
    (s_InvalidSize_InvalidNodes : PySem.W.subIn K (.ref CInvalidSize) (.ref CInvalidNodes) = some false)
    (s_InvalidSize_InvalidBounds : PySem.W.subIn K (.ref CInvalidSize) (.ref CInvalidBounds) = some false)
    (s_InvalidSize_InvalidText : PySem.W.subIn K (.ref CInvalidSize) (.ref CInvalidText) = some false)
    (s_InvalidSize_OverBudget : PySem.W.subIn K (.ref CInvalidSize) (.ref COverBudget) = some false)
    (s_InvalidSize_InvalidSize : PySem.W.subIn K (.ref CInvalidSize) (.ref CInvalidSize) = some true)
    (s_InvalidSize_InvalidEntry : PySem.W.subIn K (.ref CInvalidSize) (.ref CInvalidEntry) = some false)
    (s_InvalidSize_InvalidNode : PySem.W.subIn K (.ref CInvalidSize) (.ref CInvalidNode) = some false)
    (s_InvalidSize_InvalidSpan : PySem.W.subIn K (.ref CInvalidSize) (.ref CInvalidSpan) = some false)
    (s_InvalidSize_InvalidNumber : PySem.W.subIn K (.ref CInvalidSize) (.ref CInvalidNumber) = some false)
    (s_InvalidSize_InvalidHeight : PySem.W.subIn K (.ref CInvalidSize) (.ref CInvalidHeight) = some false)
    (s_InvalidSize_InvalidBudget : PySem.W.subIn K (.ref CInvalidSize) (.ref CInvalidBudget) = some false)
    (s_InvalidSize_InvalidOperation : PySem.W.subIn K (.ref CInvalidSize) (.ref CInvalidOperation) = some false)
    (s_InvalidSize_Nothing : PySem.W.subIn K (.ref CInvalidSize) (.ref CNothing) = some false)
    (s_InvalidSize_InvalidCommand : PySem.W.subIn K (.ref CInvalidSize) (.ref CInvalidCommand) = some false)
    (k_InvalidNumber : PySem.W.keepIn K (.ref CInvalidNumber) = true)
    (q_InvalidNumber : PySem.W.excIn K CInvalidNumber [.type "ValueError", .type "Exception", .type "BaseException", .type "object"] "ValueError.__new__" = true)
    (b_InvalidNumber : PySem.W.subIn K (.ref CInvalidNumber) (.type "BaseException") = some true)
    (g_InvalidNumber : PySem.W.findIn K (.ref CInvalidNumber) "__getattribute__" = some (some (.builtin "BaseException.__getattribute__")))
    (a_InvalidNumber : PySem.W.findIn K (.ref CInvalidNumber) "__getattr__" = some none)
    (d_InvalidNumber : PySem.W.hasDictIn K CInvalidNumber = true)
    (c_InvalidNumber : PySem.W.findIn K (.ref CInvalidNumber) "__class__" = some (some (.builtin "object.__class__")))
    (m_InvalidNumber : PySem.W.mroIn K CInvalidNumber (.type "object") = some true)
    (v_InvalidNumber : PySem.W.subIn K (.ref CInvalidNumber) (.type "ValueError") = some true)
    (l_InvalidNumber : PySem.W.subIn K (.ref CInvalidNumber) (.ref CLogError) = some true)
    (s_InvalidNumber_InvalidSpans : PySem.W.subIn K (.ref CInvalidNumber) (.ref CInvalidSpans) = some false)
    (s_InvalidNumber_InvalidNodes : PySem.W.subIn K (.ref CInvalidNumber) (.ref CInvalidNodes) = some false)
    (s_InvalidNumber_InvalidBounds : PySem.W.subIn K (.ref CInvalidNumber) (.ref CInvalidBounds) = some false)
    (s_InvalidNumber_InvalidText : PySem.W.subIn K (.ref CInvalidNumber) (.ref CInvalidText) = some false)
    (s_InvalidNumber_OverBudget : PySem.W.subIn K (.ref CInvalidNumber) (.ref COverBudget) = some false)
    (s_InvalidNumber_InvalidSize : PySem.W.subIn K (.ref CInvalidNumber) (.ref CInvalidSize) = some false)
    (s_InvalidNumber_InvalidEntry : PySem.W.subIn K (.ref CInvalidNumber) (.ref CInvalidEntry) = some false)
    (s_InvalidNumber_InvalidNode : PySem.W.subIn K (.ref CInvalidNumber) (.ref CInvalidNode) = some false)
    (s_InvalidNumber_InvalidSpan : PySem.W.subIn K (.ref CInvalidNumber) (.ref CInvalidSpan) = some false)
    (s_InvalidNumber_InvalidNumber : PySem.W.subIn K (.ref CInvalidNumber) (.ref CInvalidNumber) = some true)
    (s_InvalidNumber_InvalidHeight : PySem.W.subIn K (.ref CInvalidNumber) (.ref CInvalidHeight) = some false)
    (s_InvalidNumber_InvalidBudget : PySem.W.subIn K (.ref CInvalidNumber) (.ref CInvalidBudget) = some false)
    (s_InvalidNumber_InvalidOperation : PySem.W.subIn K (.ref CInvalidNumber) (.ref CInvalidOperation) = some false)
    (s_InvalidNumber_Nothing : PySem.W.subIn K (.ref CInvalidNumber) (.ref CNothing) = some false)
    (s_InvalidNumber_InvalidCommand : PySem.W.subIn K (.ref CInvalidNumber) (.ref CInvalidCommand) = some false)
    : ∃ fd : FuncData, (∀ (s : Shared) (v : Value), BindsTo s fd ⟨[v], []⟩ [("script", v)]) ∧ ∀ base : Heap, K.In base → base.Ns mainGlobals mg → GOk l.prog w K mg base 12 fa fd ["script"] (spLaw K) := by
  have e := hfa.symm.trans (PySem.W.mg_of X G a26)
  cases e
  have FIsWhole := fun_mk (st := sIsWhole) l0 c0 k0
  have FIsBetween := fun_mk (st := sIsBetween) l1 c1 k1
  have FCheckSize := fun_mk (st := sCheckSize) l2 c2 k2
  have FCheckNumberFrom := fun_mk (st := sCheckNumberFrom) l3 c3 k3
  have FCheckNumberBetween := fun_mk (st := sCheckNumberBetween) l4 c4 k4
  have FPowerWithin := fun_mk (st := sPowerWithin) l5 c5 k5
  have FPeaks := fun_mk (st := sPeaks) l6 c6 k6
  have FEdges := fun_mk (st := sEdges) l7 c7 k7
  have FMadeSums := fun_mk (st := sMadeSums) l8 c8 k8
  have FAppendSums := fun_mk (st := sAppendSums) l9 c9 k9
  have FRootSums := fun_mk (st := sRootSums) l10 c10 k10
  have FQuotientsSum := fun_mk (st := sQuotientsSum) l11 c11 k11
  have FRootsAlong := fun_mk (st := sRootsAlong) l12 c12 k12
  have FCheckStretch := fun_mk (st := sCheckStretch) l13 c13 k13
  have FRootsTotal := fun_mk (st := sRootsTotal) l14 c14 k14
  have FRootsBySteps := fun_mk (st := sRootsBySteps) l15 c15 k15
  have FCheapest := fun_mk (st := sCheapest) l16 c16 k16
  have FCostliest := fun_mk (st := sCostliest) l17 c17 k17
  have FLawWound := fun_mk (st := sLawWound) l18 c18 k18
  have FLawSpin := fun_mk (st := sLawSpin) l19 c19 k19
  have FLawDrawnSize := fun_mk (st := sLawDrawnSize) l20 c20 k20
  have FLawToldKind := fun_mk (st := sLawToldKind) l21 c21 k21
  have FLawKinds := fun_mk (st := sLawKinds) l22 c22 k22
  have FLawCalled := fun_mk (st := sLawCalled) l23 c23 k23
  have FLawTold := fun_mk (st := sLawTold) l24 c24 k24
  have FLawRight := fun_mk (st := sLawRight) l25 c25 k25
  have FLaw := fun_mk (st := sLaw) l26 c26 k26
  have AIsWhole : At K mg "is_whole" f0 (PySem.W.fnOf "is_whole" "is_whole" (defArgs sIsWhole) (defBody sIsWhole) (defScope sIsWhole) .none kV0 dc0 pm0 an0 cd0 ct0) ["value"] := ⟨PySem.W.mg_of X G a0, k0, FIsWhole.binds (ps := ["value"]) fun _ _ _ _ _ _ us hl => match us, hl with | [_], _ => rfl⟩
  have AIsBetween : At K mg "is_between" f1 (PySem.W.fnOf "is_between" "is_between" (defArgs sIsBetween) (defBody sIsBetween) (defScope sIsBetween) .none kV1 dc1 pm1 an1 cd1 ct1) ["value", "low", "high"] := ⟨PySem.W.mg_of X G a1, k1, FIsBetween.binds (ps := ["value", "low", "high"]) fun _ _ _ _ _ _ us hl => match us, hl with | [_, _, _], _ => rfl⟩
  have ACheckSize : At K mg "check_size" f2 (PySem.W.fnOf "check_size" "check_size" (defArgs sCheckSize) (defBody sCheckSize) (defScope sCheckSize) .none kV2 dc2 pm2 an2 cd2 ct2) ["size"] := ⟨PySem.W.mg_of X G a2, k2, FCheckSize.binds (ps := ["size"]) fun _ _ _ _ _ _ us hl => match us, hl with | [_], _ => rfl⟩
  have ACheckNumberFrom : At K mg "check_number_from" f3 (PySem.W.fnOf "check_number_from" "check_number_from" (defArgs sCheckNumberFrom) (defBody sCheckNumberFrom) (defScope sCheckNumberFrom) .none kV3 dc3 pm3 an3 cd3 ct3) ["number", "least"] := ⟨PySem.W.mg_of X G a3, k3, FCheckNumberFrom.binds (ps := ["number", "least"]) fun _ _ _ _ _ _ us hl => match us, hl with | [_, _], _ => rfl⟩
  have ACheckNumberBetween : At K mg "check_number_between" f4 (PySem.W.fnOf "check_number_between" "check_number_between" (defArgs sCheckNumberBetween) (defBody sCheckNumberBetween) (defScope sCheckNumberBetween) .none kV4 dc4 pm4 an4 cd4 ct4) ["number", "least", "most"] := ⟨PySem.W.mg_of X G a4, k4, FCheckNumberBetween.binds (ps := ["number", "least", "most"]) fun _ _ _ _ _ _ us hl => match us, hl with | [_, _, _], _ => rfl⟩
  have APowerWithin : At K mg "power_within" f5 (PySem.W.fnOf "power_within" "power_within" (defArgs sPowerWithin) (defBody sPowerWithin) (defScope sPowerWithin) .none kV5 dc5 pm5 an5 cd5 ct5) ["number"] := ⟨PySem.W.mg_of X G a5, k5, FPowerWithin.binds (ps := ["number"]) fun _ _ _ _ _ _ us hl => match us, hl with | [_], _ => rfl⟩
  have APeaks : At K mg "peaks" f6 (PySem.W.fnOf "peaks" "peaks" (defArgs sPeaks) (defBody sPeaks) (defScope sPeaks) .none kV6 dc6 pm6 an6 cd6 ct6) ["size"] := ⟨PySem.W.mg_of X G a6, k6, FPeaks.binds (ps := ["size"]) fun _ _ _ _ _ _ us hl => match us, hl with | [_], _ => rfl⟩
  have AEdges : At K mg "edges" f7 (PySem.W.fnOf "edges" "edges" (defArgs sEdges) (defBody sEdges) (defScope sEdges) .none kV7 dc7 pm7 an7 cd7 ct7) ["size"] := ⟨PySem.W.mg_of X G a7, k7, FEdges.binds (ps := ["size"]) fun _ _ _ _ _ _ us hl => match us, hl with | [_], _ => rfl⟩
  have AMadeSums : At K mg "_made_sums" f8 (PySem.W.fnOf "_made_sums" "_made_sums" (defArgs sMadeSums) (defBody sMadeSums) (defScope sMadeSums) .none kV8 dc8 pm8 an8 cd8 ct8) ["size"] := ⟨PySem.W.mg_of X G a8, k8, FMadeSums.binds (ps := ["size"]) fun _ _ _ _ _ _ us hl => match us, hl with | [_], _ => rfl⟩
  have AAppendSums : At K mg "append_sums" f9 (PySem.W.fnOf "append_sums" "append_sums" (defArgs sAppendSums) (defBody sAppendSums) (defScope sAppendSums) .none kV9 dc9 pm9 an9 cd9 ct9) ["size", "number"] := ⟨PySem.W.mg_of X G a9, k9, FAppendSums.binds (ps := ["size", "number"]) fun _ _ _ _ _ _ us hl => match us, hl with | [_, _], _ => rfl⟩
  have ARootSums : At K mg "root_sums" f10 (PySem.W.fnOf "root_sums" "root_sums" (defArgs sRootSums) (defBody sRootSums) (defScope sRootSums) .none kV10 dc10 pm10 an10 cd10 ct10) ["size"] := ⟨PySem.W.mg_of X G a10, k10, FRootSums.binds (ps := ["size"]) fun _ _ _ _ _ _ us hl => match us, hl with | [_], _ => rfl⟩
  have AQuotientsSum : At K mg "_quotients_sum" f11 (PySem.W.fnOf "_quotients_sum" "_quotients_sum" (defArgs sQuotientsSum) (defBody sQuotientsSum) (defScope sQuotientsSum) .none kV11 dc11 pm11 an11 cd11 ct11) ["first", "step", "number", "divisor"] := ⟨PySem.W.mg_of X G a11, k11, FQuotientsSum.binds (ps := ["first", "step", "number", "divisor"]) fun _ _ _ _ _ _ us hl => match us, hl with | [_, _, _, _], _ => rfl⟩
  have ARootsAlong : At K mg "_roots_along" f12 (PySem.W.fnOf "_roots_along" "_roots_along" (defArgs sRootsAlong) (defBody sRootsAlong) (defScope sRootsAlong) .none kV12 dc12 pm12 an12 cd12 ct12) ["first", "step", "number"] := ⟨PySem.W.mg_of X G a12, k12, FRootsAlong.binds (ps := ["first", "step", "number"]) fun _ _ _ _ _ _ us hl => match us, hl with | [_, _, _], _ => rfl⟩
  have ACheckStretch : At K mg "_check_stretch" f13 (PySem.W.fnOf "_check_stretch" "_check_stretch" (defArgs sCheckStretch) (defBody sCheckStretch) (defScope sCheckStretch) .none kV13 dc13 pm13 an13 cd13 ct13) ["low", "high"] := ⟨PySem.W.mg_of X G a13, k13, FCheckStretch.binds (ps := ["low", "high"]) fun _ _ _ _ _ _ us hl => match us, hl with | [_, _], _ => rfl⟩
  have ARootsTotal : At K mg "roots_total" f14 (PySem.W.fnOf "roots_total" "roots_total" (defArgs sRootsTotal) (defBody sRootsTotal) (defScope sRootsTotal) .none kV14 dc14 pm14 an14 cd14 ct14) ["low", "high"] := ⟨PySem.W.mg_of X G a14, k14, FRootsTotal.binds (ps := ["low", "high"]) fun _ _ _ _ _ _ us hl => match us, hl with | [_, _], _ => rfl⟩
  have ARootsBySteps : At K mg "roots_by_steps" f15 (PySem.W.fnOf "roots_by_steps" "roots_by_steps" (defArgs sRootsBySteps) (defBody sRootsBySteps) (defScope sRootsBySteps) .none kV15 dc15 pm15 an15 cd15 ct15) ["size", "step", "number"] := ⟨PySem.W.mg_of X G a15, k15, FRootsBySteps.binds (ps := ["size", "step", "number"]) fun _ _ _ _ _ _ us hl => match us, hl with | [_, _, _], _ => rfl⟩
  have ACheapest : At K mg "cheapest" f16 (PySem.W.fnOf "cheapest" "cheapest" (defArgs sCheapest) (defBody sCheapest) (defScope sCheapest) .none kV16 dc16 pm16 an16 cd16 ct16) ["low", "high"] := ⟨PySem.W.mg_of X G a16, k16, FCheapest.binds (ps := ["low", "high"]) fun _ _ _ _ _ _ us hl => match us, hl with | [_, _], _ => rfl⟩
  have ACostliest : At K mg "costliest" f17 (PySem.W.fnOf "costliest" "costliest" (defArgs sCostliest) (defBody sCostliest) (defScope sCostliest) .none kV17 dc17 pm17 an17 cd17 ct17) ["low", "high"] := ⟨PySem.W.mg_of X G a17, k17, FCostliest.binds (ps := ["low", "high"]) fun _ _ _ _ _ _ us hl => match us, hl with | [_, _], _ => rfl⟩
  have ALawWound : At K mg "_law_wound" f18 (PySem.W.fnOf "_law_wound" "_law_wound" (defArgs sLawWound) (defBody sLawWound) (defScope sLawWound) .none kV18 dc18 pm18 an18 cd18 ct18) ["script", "k"] := ⟨PySem.W.mg_of X G a18, k18, FLawWound.binds (ps := ["script", "k"]) fun _ _ _ _ _ _ us hl => match us, hl with | [_, _], _ => rfl⟩
  have ALawSpin : At K mg "_law_spin" f19 (PySem.W.fnOf "_law_spin" "_law_spin" (defArgs sLawSpin) (defBody sLawSpin) (defScope sLawSpin) .none kV19 dc19 pm19 an19 cd19 ct19) ["reel", "many"] := ⟨PySem.W.mg_of X G a19, k19, FLawSpin.binds (ps := ["reel", "many"]) fun _ _ _ _ _ _ us hl => match us, hl with | [_, _], _ => rfl⟩
  have ALawDrawnSize : At K mg "_law_drawn_size" f20 (PySem.W.fnOf "_law_drawn_size" "_law_drawn_size" (defArgs sLawDrawnSize) (defBody sLawDrawnSize) (defScope sLawDrawnSize) .none kV20 dc20 pm20 an20 cd20 ct20) ["reel"] := ⟨PySem.W.mg_of X G a20, k20, FLawDrawnSize.binds (ps := ["reel"]) fun _ _ _ _ _ _ us hl => match us, hl with | [_], _ => rfl⟩
  have ALawToldKind : At K mg "_law_told_kind" f21 (PySem.W.fnOf "_law_told_kind" "_law_told_kind" (defArgs sLawToldKind) (defBody sLawToldKind) (defScope sLawToldKind) .none kV21 dc21 pm21 an21 cd21 ct21) ["e"] := ⟨PySem.W.mg_of X G a21, k21, FLawToldKind.binds (ps := ["e"]) fun _ _ _ _ _ _ us hl => match us, hl with | [_], _ => rfl⟩
  have ALawKinds : At K mg "_law_kinds" f22 (PySem.W.fnOf "_law_kinds" "_law_kinds" (defArgs sLawKinds) (defBody sLawKinds) (defScope sLawKinds) .none kV22 dc22 pm22 an22 cd22 ct22) ["e"] := ⟨PySem.W.mg_of X G a22, k22, FLawKinds.binds (ps := ["e"]) fun _ _ _ _ _ _ us hl => match us, hl with | [_], _ => rfl⟩
  have ALawCalled : At K mg "_law_called" f23 (PySem.W.fnOf "_law_called" "_law_called" (defArgs sLawCalled) (defBody sLawCalled) (defScope sLawCalled) .none kV23 dc23 pm23 an23 cd23 ct23) ["door", "one", "two", "three"] := ⟨PySem.W.mg_of X G a23, k23, FLawCalled.binds (ps := ["door", "one", "two", "three"]) fun _ _ _ _ _ _ us hl => match us, hl with | [_, _, _, _], _ => rfl⟩
  have ALawTold : At K mg "_law_told" f24 (PySem.W.fnOf "_law_told" "_law_told" (defArgs sLawTold) (defBody sLawTold) (defScope sLawTold) .none kV24 dc24 pm24 an24 cd24 ct24) ["door", "one", "two", "three"] := ⟨PySem.W.mg_of X G a24, k24, FLawTold.binds (ps := ["door", "one", "two", "three"]) fun _ _ _ _ _ _ us hl => match us, hl with | [_, _, _, _], _ => rfl⟩
  have ALawRight : At K mg "_law_right" f25 (PySem.W.fnOf "_law_right" "_law_right" (defArgs sLawRight) (defBody sLawRight) (defScope sLawRight) .none kV25 dc25 pm25 an25 cd25 ct25) ["reel", "size"] := ⟨PySem.W.mg_of X G a25, k25, FLawRight.binds (ps := ["reel", "size"]) fun _ _ _ _ _ _ us hl => match us, hl with | [_, _], _ => rfl⟩
  have z_ValueError := PySem.W.mg_none_of X G z_ValueError
  have z_bool := PySem.W.mg_none_of X G z_bool
  have z_int := PySem.W.mg_none_of X G z_int
  have z_isinstance := PySem.W.mg_none_of X G z_isinstance
  have z_len := PySem.W.mg_none_of X G z_len
  have z_max := PySem.W.mg_none_of X G z_max
  have z_min := PySem.W.mg_none_of X G z_min
  have z_range := PySem.W.mg_none_of X G z_range
  have z_repr := PySem.W.mg_none_of X G z_repr
  have g_MOST_ENTRIES := PySem.W.mg_of X G g_MOST_ENTRIES
  refine ⟨PySem.W.fnOf "law" "law" (defArgs sLaw) (defBody sLaw) (defScope sLaw) .none kV26 dc26 pm26 an26 cd26 ct26, fun s v => .of_eq rfl, fun base _ _ => ?_⟩
  have GInvalidSpans : GF mg "InvalidSpans" CInvalidSpans := ⟨PySem.W.mg_of X G n_InvalidSpans⟩
  have GInvalidNodes : GF mg "InvalidNodes" CInvalidNodes := ⟨PySem.W.mg_of X G n_InvalidNodes⟩
  have GInvalidBounds : GF mg "InvalidBounds" CInvalidBounds := ⟨PySem.W.mg_of X G n_InvalidBounds⟩
  have GInvalidText : GF mg "InvalidText" CInvalidText := ⟨PySem.W.mg_of X G n_InvalidText⟩
  have GOverBudget : GF mg "OverBudget" COverBudget := ⟨PySem.W.mg_of X G n_OverBudget⟩
  have GInvalidSize : GF mg "InvalidSize" CInvalidSize := ⟨PySem.W.mg_of X G n_InvalidSize⟩
  have GInvalidEntry : GF mg "InvalidEntry" CInvalidEntry := ⟨PySem.W.mg_of X G n_InvalidEntry⟩
  have GInvalidNode : GF mg "InvalidNode" CInvalidNode := ⟨PySem.W.mg_of X G n_InvalidNode⟩
  have GInvalidSpan : GF mg "InvalidSpan" CInvalidSpan := ⟨PySem.W.mg_of X G n_InvalidSpan⟩
  have GInvalidNumber : GF mg "InvalidNumber" CInvalidNumber := ⟨PySem.W.mg_of X G n_InvalidNumber⟩
  have GInvalidHeight : GF mg "InvalidHeight" CInvalidHeight := ⟨PySem.W.mg_of X G n_InvalidHeight⟩
  have GInvalidBudget : GF mg "InvalidBudget" CInvalidBudget := ⟨PySem.W.mg_of X G n_InvalidBudget⟩
  have GInvalidOperation : GF mg "InvalidOperation" CInvalidOperation := ⟨PySem.W.mg_of X G n_InvalidOperation⟩
  have GNothing : GF mg "Nothing" CNothing := ⟨PySem.W.mg_of X G n_Nothing⟩
  have GInvalidCommand : GF mg "InvalidCommand" CInvalidCommand := ⟨PySem.W.mg_of X G n_InvalidCommand⟩
  have GLogError : GF mg "LogError" CLogError := ⟨PySem.W.mg_of X G n_LogError⟩
  have XInvalidSize : XF K mg "InvalidSize" CInvalidSize := ⟨PySem.W.mg_of X G n_InvalidSize, k_InvalidSize, q_InvalidSize, b_InvalidSize, t_InvalidSize⟩
  have KInvalidSize : CK K [CInvalidSpans, CInvalidNodes, CInvalidBounds, CInvalidText, COverBudget, CInvalidSize, CInvalidEntry, CInvalidNode, CInvalidSpan, CInvalidNumber, CInvalidHeight, CInvalidBudget, CInvalidOperation, CNothing, CInvalidCommand] CLogError CInvalidSize "size" := ⟨⟨g_InvalidSize, a_InvalidSize, b_InvalidSize, d_InvalidSize, c_InvalidSize, x_n, x_t, m_InvalidSize⟩, ⟨[false, false, false, false, false, true, false, false, false, false, false, false, false, false, false], ⟨kit_of i_InvalidSpans t_InvalidSpans s_InvalidSize_InvalidSpans s_InvalidSize_InvalidSize, kit_of i_InvalidNodes t_InvalidNodes s_InvalidSize_InvalidNodes s_InvalidSize_InvalidSize, kit_of i_InvalidBounds t_InvalidBounds s_InvalidSize_InvalidBounds s_InvalidSize_InvalidSize, kit_of i_InvalidText t_InvalidText s_InvalidSize_InvalidText s_InvalidSize_InvalidSize, kit_of i_OverBudget t_OverBudget s_InvalidSize_OverBudget s_InvalidSize_InvalidSize, kit_of i_InvalidSize t_InvalidSize s_InvalidSize_InvalidSize s_InvalidSize_InvalidSize, kit_of i_InvalidEntry t_InvalidEntry s_InvalidSize_InvalidEntry s_InvalidSize_InvalidSize, kit_of i_InvalidNode t_InvalidNode s_InvalidSize_InvalidNode s_InvalidSize_InvalidSize, kit_of i_InvalidSpan t_InvalidSpan s_InvalidSize_InvalidSpan s_InvalidSize_InvalidSize, kit_of i_InvalidNumber t_InvalidNumber s_InvalidSize_InvalidNumber s_InvalidSize_InvalidSize, kit_of i_InvalidHeight t_InvalidHeight s_InvalidSize_InvalidHeight s_InvalidSize_InvalidSize, kit_of i_InvalidBudget t_InvalidBudget s_InvalidSize_InvalidBudget s_InvalidSize_InvalidSize, kit_of i_InvalidOperation t_InvalidOperation s_InvalidSize_InvalidOperation s_InvalidSize_InvalidSize, kit_of i_Nothing t_Nothing s_InvalidSize_Nothing s_InvalidSize_InvalidSize, kit_of i_InvalidCommand t_InvalidCommand s_InvalidSize_InvalidCommand s_InvalidSize_InvalidSize, trivial⟩, by decide +kernel⟩, kit_ty0 (by decide) v_InvalidSize, by decide +kernel, by decide +kernel, by decide +kernel, by decide +kernel, by decide +kernel, by decide +kernel, by decide +kernel, PySem.W.exm_ref b_LogError d_LogError t_LogError l_InvalidSize⟩
  have XInvalidNumber : XF K mg "InvalidNumber" CInvalidNumber := ⟨PySem.W.mg_of X G n_InvalidNumber, k_InvalidNumber, q_InvalidNumber, b_InvalidNumber, t_InvalidNumber⟩
  have KInvalidNumber : CK K [CInvalidSpans, CInvalidNodes, CInvalidBounds, CInvalidText, COverBudget, CInvalidSize, CInvalidEntry, CInvalidNode, CInvalidSpan, CInvalidNumber, CInvalidHeight, CInvalidBudget, CInvalidOperation, CNothing, CInvalidCommand] CLogError CInvalidNumber "number" := ⟨⟨g_InvalidNumber, a_InvalidNumber, b_InvalidNumber, d_InvalidNumber, c_InvalidNumber, x_n, x_t, m_InvalidNumber⟩, ⟨[false, false, false, false, false, false, false, false, false, true, false, false, false, false, false], ⟨kit_of i_InvalidSpans t_InvalidSpans s_InvalidNumber_InvalidSpans s_InvalidNumber_InvalidNumber, kit_of i_InvalidNodes t_InvalidNodes s_InvalidNumber_InvalidNodes s_InvalidNumber_InvalidNumber, kit_of i_InvalidBounds t_InvalidBounds s_InvalidNumber_InvalidBounds s_InvalidNumber_InvalidNumber, kit_of i_InvalidText t_InvalidText s_InvalidNumber_InvalidText s_InvalidNumber_InvalidNumber, kit_of i_OverBudget t_OverBudget s_InvalidNumber_OverBudget s_InvalidNumber_InvalidNumber, kit_of i_InvalidSize t_InvalidSize s_InvalidNumber_InvalidSize s_InvalidNumber_InvalidNumber, kit_of i_InvalidEntry t_InvalidEntry s_InvalidNumber_InvalidEntry s_InvalidNumber_InvalidNumber, kit_of i_InvalidNode t_InvalidNode s_InvalidNumber_InvalidNode s_InvalidNumber_InvalidNumber, kit_of i_InvalidSpan t_InvalidSpan s_InvalidNumber_InvalidSpan s_InvalidNumber_InvalidNumber, kit_of i_InvalidNumber t_InvalidNumber s_InvalidNumber_InvalidNumber s_InvalidNumber_InvalidNumber, kit_of i_InvalidHeight t_InvalidHeight s_InvalidNumber_InvalidHeight s_InvalidNumber_InvalidNumber, kit_of i_InvalidBudget t_InvalidBudget s_InvalidNumber_InvalidBudget s_InvalidNumber_InvalidNumber, kit_of i_InvalidOperation t_InvalidOperation s_InvalidNumber_InvalidOperation s_InvalidNumber_InvalidNumber, kit_of i_Nothing t_Nothing s_InvalidNumber_Nothing s_InvalidNumber_InvalidNumber, kit_of i_InvalidCommand t_InvalidCommand s_InvalidNumber_InvalidCommand s_InvalidNumber_InvalidNumber, trivial⟩, by decide +kernel⟩, kit_ty0 (by decide) v_InvalidNumber, by decide +kernel, by decide +kernel, by decide +kernel, by decide +kernel, by decide +kernel, by decide +kernel, by decide +kernel, PySem.W.exm_ref b_LogError d_LogError t_LogError l_InvalidNumber⟩
  have GIsWhole := ok_is_wholeV (P := l.prog) (w := w) (base := base) FIsWhole z_isinstance z_int z_bool
  have GIsBetween := ok_is_betweenV FIsBetween GIsWhole AIsWhole
  have GCheckSize := ok_check_size FCheckSize (between_of GIsBetween) AIsBetween g_MOST_ENTRIES
  have GCheckNumberFrom := ok_check_number_from FCheckNumberFrom (whole_of GIsWhole) AIsWhole
  have GCheckNumberBetween := ok_check_number_between FCheckNumberBetween (between_of GIsBetween) AIsBetween
  have GPowerWithin := ok_power_within (P := l.prog) (w := w) (mg := mg) (base := base) FPowerWithin
  have GPeaks := ok_peaks FPeaks GCheckSize ACheckSize GPowerWithin APowerWithin
  have GEdges := ok_edges FEdges GPeaks APeaks
  have GRootSums := ok_root_sums FRootSums GEdges AEdges z_len
  have GMadeSums := ok_made_sums FMadeSums GRootSums ARootSums
  have GAppendSums := ok_append_sums FAppendSums GCheckSize ACheckSize GCheckNumberBetween ACheckNumberBetween GMadeSums AMadeSums g_MOST_ENTRIES
  have GQuotientsSum := ok_quotients_sum (P := l.prog) (w := w) (mg := mg) (base := base) FQuotientsSum
  have GRootsAlong := ok_roots_along FRootsAlong GQuotientsSum AQuotientsSum
  have GQuotientsSum0 := ok_quotients_sum0 (P := l.prog) (w := w) (K := K) (mg := mg) (base := base) FQuotientsSum
  have GRootsAlong0 := ok_roots_along0 FRootsAlong GQuotientsSum0 AQuotientsSum
  have GCheckStretch := ok_check_stretch FCheckStretch GCheckSize ACheckSize
  have GRootsTotal := ok_roots_total FRootsTotal GCheckStretch ACheckStretch GRootsAlong ARootsAlong
  have GRootsBySteps := ok_roots_by_steps FRootsBySteps GCheckSize ACheckSize GCheckNumberFrom ACheckNumberFrom GCheckNumberBetween ACheckNumberBetween GRootsAlong ARootsAlong g_MOST_ENTRIES
  have GRootsBySteps0 := ok_roots_by_steps0 FRootsBySteps GCheckSize ACheckSize GCheckNumberFrom ACheckNumberFrom GCheckNumberBetween ACheckNumberBetween GRootsAlong0 ARootsAlong g_MOST_ENTRIES
  have GCheapest := ok_cheapest FCheapest GCheckStretch ACheckStretch GRootSums ARootSums z_min
  have GCostliest := ok_costliest FCostliest GCheckStretch ACheckStretch GRootSums ARootSums
  have YCheckSize := okX_check_size FCheckSize XInvalidSize GIsBetween AIsBetween g_MOST_ENTRIES
  have YCheckNumberFrom := okX_check_number_from FCheckNumberFrom XInvalidNumber GIsWhole AIsWhole
  have YCheckNumberBetween := okX_check_number_between FCheckNumberBetween XInvalidNumber GIsBetween AIsBetween
  have YPeaks := okX_peaks FPeaks YCheckSize ACheckSize GPowerWithin APowerWithin
  have YEdges := okX_edges FEdges YPeaks APeaks
  have YRootSums := okX_root_sums FRootSums YEdges AEdges z_len
  have YAppendSums := okX_append_sums FAppendSums YCheckSize ACheckSize YCheckNumberBetween ACheckNumberBetween GMadeSums AMadeSums g_MOST_ENTRIES
  have YCheckStretch := okX_check_stretch FCheckStretch XInvalidSize YCheckSize ACheckSize
  have YRootsTotal := okX_roots_total FRootsTotal YCheckStretch ACheckStretch GRootsAlong ARootsAlong
  have YRootsBySteps := okX_roots_by_steps FRootsBySteps YCheckSize ACheckSize YCheckNumberFrom ACheckNumberFrom YCheckNumberBetween ACheckNumberBetween GRootsAlong ARootsAlong g_MOST_ENTRIES
  have YCheapest := okX_cheapest FCheapest YCheckStretch ACheckStretch GRootSums ARootSums z_min
  have YCostliest := okX_costliest FCostliest YCheckStretch ACheckStretch GRootSums ARootSums
  have GLawWound := ok_law_wound (P := l.prog) (w := w) (base := base) FLawWound z_max z_len z_int
  have GLawSpin := ok_law_spin (P := l.prog) (w := w) (base := base) FLawSpin z_int
  have GLawDrawnSize := ok_law_drawn_size FLawDrawnSize GLawSpin ALawSpin z_min z_int
  have GLawKinds := ok_law_kinds (P := l.prog) (w := w) (base := base) FLawKinds GInvalidSpans GInvalidNodes GInvalidBounds GInvalidText GOverBudget GInvalidSize GInvalidEntry GInvalidNode GInvalidSpan GInvalidNumber GInvalidHeight GInvalidBudget GInvalidOperation GNothing GInvalidCommand z_isinstance
  have GLawToldKind := ok_law_told_kind FLawToldKind GLawKinds ALawKinds z_isinstance z_len z_repr z_ValueError
  have GLawCalled := okX_law_called FLawCalled (both (toX GAppendSums) YAppendSums) AAppendSums (both (toX (both GRootsBySteps GRootsBySteps0)) YRootsBySteps) ARootsBySteps (both (toX GRootsTotal) YRootsTotal) ARootsTotal (both (toX GCheapest) YCheapest) ACheapest (both (toX GCostliest) YCostliest) ACostliest (both (toX GRootSums) YRootSums) ARootSums
  have GLawTold := ok_law_told FLawTold GLogError KInvalidSize KInvalidNumber GLawCalled ALawCalled GLawToldKind ALawToldKind z_repr
  have GLawRight := ok_law_right FLawRight GLawTold ALawTold GLawSpin ALawSpin z_range
  exact ok_law FLaw GLawWound ALawWound GLawRight ALawRight GLawSpin ALawSpin GLawDrawnSize ALawDrawnSize z_range z_len z_max z_min
end LT
open PySem PySem.W PyProof.Rows
set_option maxRecDepth 100000 in
set_option maxHeartbeats 0 in
theorem PySem.Challenge.cw_logtrees_k26_errors_of_work_holds : PySem.Challenge.rw_logtrees_k26_errors_of_work.Holds := by
  w_on; o_law; k_head; (case hw => w_witness2)
  k_fill
  refine LT.walkG (l := PySem.Challenge.rw_logtrees_k26_errors_of_work) (n := 63) (k := 12) (x := "script") (sp := fun w => LT.spLaw _) rfl (by decide) rfl ⟨rfl, by decide, by decide⟩ (fun w h Y => PySem.W.kIn_of Y) ?F (fun _ _ a ns hl _ hS => ⟨a, ns, rfl, hS, hl, fun _ => rfl⟩)
  case F =>
    intro w mg fa h KX G hmg
    refine' LT.all_mk KX G hmg ?a0 ?l0 ?c0 ?k0 ?a1 ?l1 ?c1 ?k1 ?a2 ?l2 ?c2 ?k2 ?a3 ?l3 ?c3 ?k3 ?a4 ?l4 ?c4 ?k4 ?a5 ?l5 ?c5 ?k5 ?a6 ?l6 ?c6 ?k6 ?a7 ?l7 ?c7 ?k7 ?a8 ?l8 ?c8 ?k8 ?a9 ?l9 ?c9 ?k9 ?a10 ?l10 ?c10 ?k10 ?a11 ?l11 ?c11 ?k11 ?a12 ?l12 ?c12 ?k12 ?a13 ?l13 ?c13 ?k13 ?a14 ?l14 ?c14 ?k14 ?a15 ?l15 ?c15 ?k15 ?a16 ?l16 ?c16 ?k16 ?a17 ?l17 ?c17 ?k17 ?a18 ?l18 ?c18 ?k18 ?a19 ?l19 ?c19 ?k19 ?a20 ?l20 ?c20 ?k20 ?a21 ?l21 ?c21 ?k21 ?a22 ?l22 ?c22 ?k22 ?a23 ?l23 ?c23 ?k23 ?a24 ?l24 ?c24 ?k24 ?a25 ?l25 ?c25 ?k25 ?a26 ?l26 ?c26 ?k26 ?z_ValueError ?z_bool ?z_int ?z_isinstance ?z_len ?z_max ?z_min ?z_range ?z_repr ?g_MOST_ENTRIES ?n_InvalidSpans ?i_InvalidSpans ?t_InvalidSpans ?n_InvalidNodes ?i_InvalidNodes ?t_InvalidNodes ?n_InvalidBounds ?i_InvalidBounds ?t_InvalidBounds ?n_InvalidText ?i_InvalidText ?t_InvalidText ?n_OverBudget ?i_OverBudget ?t_OverBudget ?n_InvalidSize ?i_InvalidSize ?t_InvalidSize ?n_InvalidEntry ?i_InvalidEntry ?t_InvalidEntry ?n_InvalidNode ?i_InvalidNode ?t_InvalidNode ?n_InvalidSpan ?i_InvalidSpan ?t_InvalidSpan ?n_InvalidNumber ?i_InvalidNumber ?t_InvalidNumber ?n_InvalidHeight ?i_InvalidHeight ?t_InvalidHeight ?n_InvalidBudget ?i_InvalidBudget ?t_InvalidBudget ?n_InvalidOperation ?i_InvalidOperation ?t_InvalidOperation ?n_Nothing ?i_Nothing ?t_Nothing ?n_InvalidCommand ?i_InvalidCommand ?t_InvalidCommand ?n_LogError ?i_LogError ?t_LogError ?b_LogError ?d_LogError ?x_n ?x_t ?k_InvalidSize ?q_InvalidSize ?b_InvalidSize ?g_InvalidSize ?a_InvalidSize ?d_InvalidSize ?c_InvalidSize ?m_InvalidSize ?v_InvalidSize ?l_InvalidSize ?s_InvalidSize_InvalidSpans ?s_InvalidSize_InvalidNodes ?s_InvalidSize_InvalidBounds ?s_InvalidSize_InvalidText ?s_InvalidSize_OverBudget ?s_InvalidSize_InvalidSize ?s_InvalidSize_InvalidEntry ?s_InvalidSize_InvalidNode ?s_InvalidSize_InvalidSpan ?s_InvalidSize_InvalidNumber ?s_InvalidSize_InvalidHeight ?s_InvalidSize_InvalidBudget ?s_InvalidSize_InvalidOperation ?s_InvalidSize_Nothing ?s_InvalidSize_InvalidCommand ?k_InvalidNumber ?q_InvalidNumber ?b_InvalidNumber ?g_InvalidNumber ?a_InvalidNumber ?d_InvalidNumber ?c_InvalidNumber ?m_InvalidNumber ?v_InvalidNumber ?l_InvalidNumber ?s_InvalidNumber_InvalidSpans ?s_InvalidNumber_InvalidNodes ?s_InvalidNumber_InvalidBounds ?s_InvalidNumber_InvalidText ?s_InvalidNumber_OverBudget ?s_InvalidNumber_InvalidSize ?s_InvalidNumber_InvalidEntry ?s_InvalidNumber_InvalidNode ?s_InvalidNumber_InvalidSpan ?s_InvalidNumber_InvalidNumber ?s_InvalidNumber_InvalidHeight ?s_InvalidNumber_InvalidBudget ?s_InvalidNumber_InvalidOperation ?s_InvalidNumber_Nothing ?s_InvalidNumber_InvalidCommand
    (case a0 => k_is)
    (case l0 => k_is)
    (case c0 => k_is)
    (case k0 => k_is)
    (case a1 => k_is)
    (case l1 => k_is)
    (case c1 => k_is)
    (case k1 => k_is)
    (case a2 => k_is)
    (case l2 => k_is)
    (case c2 => k_is)
    (case k2 => k_is)
    (case a3 => k_is)
    (case l3 => k_is)
    (case c3 => k_is)
    (case k3 => k_is)
    (case a4 => k_is)
    (case l4 => k_is)
    (case c4 => k_is)
    (case k4 => k_is)
    (case a5 => k_is)
    (case l5 => k_is)
    (case c5 => k_is)
    (case k5 => k_is)
    (case a6 => k_is)
    (case l6 => k_is)
    (case c6 => k_is)
    (case k6 => k_is)
    (case a7 => k_is)
    (case l7 => k_is)
    (case c7 => k_is)
    (case k7 => k_is)
    (case a8 => k_is)
    (case l8 => k_is)
    (case c8 => k_is)
    (case k8 => k_is)
    (case a9 => k_is)
    (case l9 => k_is)
    (case c9 => k_is)
    (case k9 => k_is)
    (case a10 => k_is)
    (case l10 => k_is)
    (case c10 => k_is)
    (case k10 => k_is)
    (case a11 => k_is)
    (case l11 => k_is)
    (case c11 => k_is)
    (case k11 => k_is)
    (case a12 => k_is)
    (case l12 => k_is)
    (case c12 => k_is)
    (case k12 => k_is)
    (case a13 => k_is)
    (case l13 => k_is)
    (case c13 => k_is)
    (case k13 => k_is)
    (case a14 => k_is)
    (case l14 => k_is)
    (case c14 => k_is)
    (case k14 => k_is)
    (case a15 => k_is)
    (case l15 => k_is)
    (case c15 => k_is)
    (case k15 => k_is)
    (case a16 => k_is)
    (case l16 => k_is)
    (case c16 => k_is)
    (case k16 => k_is)
    (case a17 => k_is)
    (case l17 => k_is)
    (case c17 => k_is)
    (case k17 => k_is)
    (case a18 => k_is)
    (case l18 => k_is)
    (case c18 => k_is)
    (case k18 => k_is)
    (case a19 => k_is)
    (case l19 => k_is)
    (case c19 => k_is)
    (case k19 => k_is)
    (case a20 => k_is)
    (case l20 => k_is)
    (case c20 => k_is)
    (case k20 => k_is)
    (case a21 => k_is)
    (case l21 => k_is)
    (case c21 => k_is)
    (case k21 => k_is)
    (case a22 => k_is)
    (case l22 => k_is)
    (case c22 => k_is)
    (case k22 => k_is)
    (case a23 => k_is)
    (case l23 => k_is)
    (case c23 => k_is)
    (case k23 => k_is)
    (case a24 => k_is)
    (case l24 => k_is)
    (case c24 => k_is)
    (case k24 => k_is)
    (case a25 => k_is)
    (case l25 => k_is)
    (case c25 => k_is)
    (case k25 => k_is)
    (case a26 => k_is)
    (case l26 => k_is)
    (case c26 => k_is)
    (case k26 => k_is)
    (case z_ValueError => k_is)
    (case z_bool => k_is)
    (case z_int => k_is)
    (case z_isinstance => k_is)
    (case z_len => k_is)
    (case z_max => k_is)
    (case z_min => k_is)
    (case z_range => k_is)
    (case z_repr => k_is)
    (case g_MOST_ENTRIES => k_is)
    (case n_InvalidSpans => k_is)
    (case i_InvalidSpans => k_is)
    (case t_InvalidSpans => k_is)
    (case n_InvalidNodes => k_is)
    (case i_InvalidNodes => k_is)
    (case t_InvalidNodes => k_is)
    (case n_InvalidBounds => k_is)
    (case i_InvalidBounds => k_is)
    (case t_InvalidBounds => k_is)
    (case n_InvalidText => k_is)
    (case i_InvalidText => k_is)
    (case t_InvalidText => k_is)
    (case n_OverBudget => k_is)
    (case i_OverBudget => k_is)
    (case t_OverBudget => k_is)
    (case n_InvalidSize => k_is)
    (case i_InvalidSize => k_is)
    (case t_InvalidSize => k_is)
    (case n_InvalidEntry => k_is)
    (case i_InvalidEntry => k_is)
    (case t_InvalidEntry => k_is)
    (case n_InvalidNode => k_is)
    (case i_InvalidNode => k_is)
    (case t_InvalidNode => k_is)
    (case n_InvalidSpan => k_is)
    (case i_InvalidSpan => k_is)
    (case t_InvalidSpan => k_is)
    (case n_InvalidNumber => k_is)
    (case i_InvalidNumber => k_is)
    (case t_InvalidNumber => k_is)
    (case n_InvalidHeight => k_is)
    (case i_InvalidHeight => k_is)
    (case t_InvalidHeight => k_is)
    (case n_InvalidBudget => k_is)
    (case i_InvalidBudget => k_is)
    (case t_InvalidBudget => k_is)
    (case n_InvalidOperation => k_is)
    (case i_InvalidOperation => k_is)
    (case t_InvalidOperation => k_is)
    (case n_Nothing => k_is)
    (case i_Nothing => k_is)
    (case t_Nothing => k_is)
    (case n_InvalidCommand => k_is)
    (case i_InvalidCommand => k_is)
    (case t_InvalidCommand => k_is)
    (case n_LogError => k_is)
    (case i_LogError => k_is)
    (case t_LogError => k_is)
    (case b_LogError => k_is)
    (case d_LogError => k_is)
    (case x_n => k_is)
    (case x_t => k_is)
    (case k_InvalidSize => k_is)
    (case q_InvalidSize => k_exc)
    (case b_InvalidSize => k_is)
    (case g_InvalidSize => k_is)
    (case a_InvalidSize => k_is)
    (case d_InvalidSize => k_is)
    (case c_InvalidSize => k_is)
    (case m_InvalidSize => k_is)
    (case v_InvalidSize => k_is)
    (case l_InvalidSize => k_is)
    (case s_InvalidSize_InvalidSpans => k_is)
    (case s_InvalidSize_InvalidNodes => k_is)
    (case s_InvalidSize_InvalidBounds => k_is)
    (case s_InvalidSize_InvalidText => k_is)
    (case s_InvalidSize_OverBudget => k_is)
    (case s_InvalidSize_InvalidSize => k_is)
    (case s_InvalidSize_InvalidEntry => k_is)
    (case s_InvalidSize_InvalidNode => k_is)
    (case s_InvalidSize_InvalidSpan => k_is)
    (case s_InvalidSize_InvalidNumber => k_is)
    (case s_InvalidSize_InvalidHeight => k_is)
    (case s_InvalidSize_InvalidBudget => k_is)
    (case s_InvalidSize_InvalidOperation => k_is)
    (case s_InvalidSize_Nothing => k_is)
    (case s_InvalidSize_InvalidCommand => k_is)
    (case k_InvalidNumber => k_is)
    (case q_InvalidNumber => k_exc)
    (case b_InvalidNumber => k_is)
    (case g_InvalidNumber => k_is)
    (case a_InvalidNumber => k_is)
    (case d_InvalidNumber => k_is)
    (case c_InvalidNumber => k_is)
    (case m_InvalidNumber => k_is)
    (case v_InvalidNumber => k_is)
    (case l_InvalidNumber => k_is)
    (case s_InvalidNumber_InvalidSpans => k_is)
    (case s_InvalidNumber_InvalidNodes => k_is)
    (case s_InvalidNumber_InvalidBounds => k_is)
    (case s_InvalidNumber_InvalidText => k_is)
    (case s_InvalidNumber_OverBudget => k_is)
    (case s_InvalidNumber_InvalidSize => k_is)
    (case s_InvalidNumber_InvalidEntry => k_is)
    (case s_InvalidNumber_InvalidNode => k_is)
    (case s_InvalidNumber_InvalidSpan => k_is)
    (case s_InvalidNumber_InvalidNumber => k_is)
    (case s_InvalidNumber_InvalidHeight => k_is)
    (case s_InvalidNumber_InvalidBudget => k_is)
    (case s_InvalidNumber_InvalidOperation => k_is)
    (case s_InvalidNumber_Nothing => k_is)
    (case s_InvalidNumber_InvalidCommand => k_is)
