import PyProof.Rows.All
import Wide.All
import OpenK.AllK
import Wide.FinOn
import HandS.ForMost
import HandS.Wide
import HandS.WideBits
import HandS.IsInst
import HandS.Style
import HandS.Deep
import HandS.RaiseMore
import HandS.Conv
import HandS.Flow
import HandS.SortRule
import HandS.Exc
import HandS.ExcOwn
import HandS.ExcValue
import HandS.ExcIs
import HandS.WordsExc
import HandS.NoneIn
import KE.DataMinMax
import KE.SortData
import HandS.FStr
import HandS.ExcInit
import HandS.ExcSuper
import HandS.ExcField
import HandS.ClsMeth
import KE.KExcSuper
import PyProof.ReprRoads
import PyProof.Rows.NestShow
import HandS.TupLen
import HandS.Set
import HandS.SetFor
import HandS.Strs
import HandS.Defaults
import KE.DataAny
import HandS.TupSets
import HandS.Text
import HandS.StrMore
import HandS.Property
import HandS.TupAny
import HandS.OwnEq
import PySem.Challenge.RW_logtrees_k39_text_errors
set_option Elab.async false
set_option linter.all false
set_option maxRecDepth 100000
set_option maxHeartbeats 4000000
namespace LT
/-- the greatest power of two less than m (m from 2) -/
def gp (m : Nat) : Nat := 2 ^ Nat.log2 (m - 1)
theorem gp_pos (m : Nat) : 0 < gp m := Nat.pow_pos (by decide)
theorem gp_lt {m : Nat} (h : 2 ≤ m) : gp m < m := by
  have := Nat.log2_self_le (n := m - 1) (by omega)
  unfold gp; omega
theorem gp_ge {m : Nat} (h : 2 ≤ m) : m ≤ 2 * gp m := by
  have := Nat.lt_log2_self (n := m - 1)
  unfold gp; rw [Nat.pow_succ] at this; omega
theorem pow_eq_of {i j : Nat} {m : Nat} (h1 : 2 ^ i < m) (h2 : m ≤ 2 * 2 ^ i) (h3 : 2 ^ j < m) (h4 : m ≤ 2 * 2 ^ j) : i = j := by
  have a : 2 ^ i < 2 ^ (j + 1) := by rw [Nat.pow_succ]; omega
  have b : 2 ^ j < 2 ^ (i + 1) := by rw [Nat.pow_succ]; omega
  have a' := (Nat.pow_lt_pow_iff_right (by decide : 1 < 2)).mp a
  have b' := (Nat.pow_lt_pow_iff_right (by decide : 1 < 2)).mp b
  omega
theorem gp_eq {i m : Nat} (h1 : 2 ^ i < m) (h2 : m ≤ 2 * 2 ^ i) : gp m = 2 ^ i := by
  have h : 2 ≤ m := by have := Nat.pow_pos (a := 2) (n := i) (by decide); omega
  have := pow_eq_of (gp_lt h) (gp_ge h) h1 h2
  unfold gp; rw [this]
theorem gp_pow (i : Nat) : gp (2 ^ (i + 1)) = 2 ^ i := gp_eq (by rw [Nat.pow_succ]; have := Nat.pow_pos (a := 2) (n := i) (by decide); omega) (by rw [Nat.pow_succ]; omega)

/-- siblings from the root's half down to the leaf's: nodes as (begin, length-end) pairs -/
def sib (b m e : Nat) : List (Nat × Nat) :=
  if h : m ≤ 1 then [] else
    if e < b + gp m then (b + gp m, b + m) :: sib b (gp m) e
    else (b, b + gp m) :: sib (b + gp m) (m - gp m) e
termination_by m
decreasing_by
  · exact gp_lt (by omega)
  · have := gp_pos m; omega
theorem sib_one {b m e : Nat} (h : m ≤ 1) : sib b m e = [] := by rw [sib]; simp [h]
theorem sib_low {b m e : Nat} (h : 2 ≤ m) (k : e < b + gp m) : sib b m e = (b + gp m, b + m) :: sib b (gp m) e := by
  rw [sib]; rw [dif_neg (by omega), if_pos k]
theorem sib_high {b m e : Nat} (h : 2 ≤ m) (k : ¬ e < b + gp m) : sib b m e = (b, b + gp m) :: sib (b + gp m) (m - gp m) e := by
  rw [sib]; rw [dif_neg (by omega), if_neg k]

/-! ### joining up again -/
def join (x y : Nat × Nat) : Nat × Nat := (min x.1 y.1, max x.2 y.2)
/-- the halves of a node -/
def halv (x : Nat × Nat) : (Nat × Nat) × (Nat × Nat) := ((x.1, x.1 + gp (x.2 - x.1)), (x.1 + gp (x.2 - x.1), x.2))
def ok1 (x y : Nat × Nat) : Prop := (join x y).1 + 2 ≤ (join x y).2 ∧ (halv (join x y) = (x, y) ∨ halv (join x y) = (y, x))
def oks : Nat × Nat → List (Nat × Nat) → Prop
  | _, [] => True
  | x, y :: r => ok1 x y ∧ oks (join x y) r
def top : Nat × Nat → List (Nat × Nat) → Nat × Nat
  | x, [] => x
  | x, y :: r => top (join x y) r
theorem oks_append : ∀ (x : Nat × Nat) (l r : List (Nat × Nat)), oks x l → oks (top x l) r → oks x (l ++ r)
  | _, [], _, _, h => h
  | x, y :: l, r, h1, h2 => ⟨h1.1, oks_append (join x y) l r h1.2 h2⟩
theorem top_append : ∀ (x : Nat × Nat) (l r : List (Nat × Nat)), top x (l ++ r) = top (top x l) r
  | _, [], _ => rfl
  | x, y :: l, r => top_append (join x y) l r
theorem sib_up : ∀ (m b e : Nat), b ≤ e → e < b + m → oks (e, e + 1) (sib b m e).reverse ∧ top (e, e + 1) (sib b m e).reverse = (b, b + m) := by
  intro m
  induction m using Nat.strongRecOn with
  | ind m ih =>
    intro b e h1 h2
    by_cases hm : m ≤ 1
    · have : m = 1 := by omega
      subst this
      rw [sib_one (by omega)]
      have : e = b := by omega
      subst this
      exact ⟨True.intro, rfl⟩
    · have g1 := gp_lt (m := m) (by omega)
      have g2 := gp_pos m
      by_cases k : e < b + gp m
      · rw [sib_low (by omega) k, List.reverse_cons]
        obtain ⟨p, q⟩ := ih (gp m) g1 b e h1 k
        have j : join (b, b + gp m) (b + gp m, b + m) = (b, b + m) := by
          unfold join; simp only []; rw [Nat.min_eq_left (by omega), Nat.max_eq_right (by omega)]
        refine ⟨oks_append _ _ _ p ?_, ?_⟩
        · rw [q]
          refine ⟨⟨?_, .inl ?_⟩, True.intro⟩
          · rw [j]; simp only []; omega
          · rw [j]; unfold halv; simp only []; rw [Nat.add_sub_cancel_left]
        · rw [top_append, q]; exact j
      · rw [sib_high (by omega) k, List.reverse_cons]
        obtain ⟨p, q⟩ := ih (m - gp m) (by omega) (b + gp m) e (by omega) (by omega)
        have e2 : b + gp m + (m - gp m) = b + m := by omega
        rw [e2] at q
        have j : join (b + gp m, b + m) (b, b + gp m) = (b, b + m) := by
          unfold join; simp only []; rw [Nat.min_eq_right (by omega), Nat.max_eq_left (by omega)]
        refine ⟨oks_append _ _ _ p ?_, ?_⟩
        · rw [q]
          refine ⟨⟨?_, .inr ?_⟩, True.intro⟩
          · rw [j]; simp only []; omega
          · rw [j]; unfold halv; simp only []; rw [Nat.add_sub_cancel_left]
        · rw [top_append, q]; exact j
theorem sib_len_pow (i : Nat) : ∀ (b e : Nat), b ≤ e → e < b + 2 ^ i → (sib b (2 ^ i) e).length = i := by
  induction i with
  | zero => intro b e h1 h2; rw [sib_one (by simp)]; rfl
  | succ i ih =>
    intro b e h1 h2
    have h3 : 2 ≤ 2 ^ (i + 1) := by rw [Nat.pow_succ]; have := Nat.pow_pos (a := 2) (n := i) (by decide); omega
    have g := gp_pow i
    have e2 : 2 ^ (i + 1) - 2 ^ i = 2 ^ i := by rw [Nat.pow_succ]; omega
    by_cases k : e < b + gp (2 ^ (i + 1))
    · rw [sib_low h3 k, List.length_cons, g, ih b e h1 (by omega)]
    · rw [sib_high h3 k, List.length_cons, g, e2, ih (b + 2 ^ i) e (by omega) (by rw [Nat.pow_succ] at h2; omega)]
/-! ### the peaks by digits: (begin, height) -/
def pk : Nat → Nat → Nat → List (Nat × Nat)
  | 0, _, _ => []
  | i + 1, n, b => if n.testBit i then (b, i) :: pk i n (b + 2 ^ i) else pk i n b
theorem mod_succ (n i : Nat) : n % 2 ^ (i + 1) = (if n.testBit i then 2 ^ i else 0) + n % 2 ^ i := by
  rw [Nat.mod_pow_succ, Nat.testBit_eq_decide_div_mod_eq, Nat.add_comm]
  have h : n / 2 ^ i % 2 = 0 ∨ n / 2 ^ i % 2 = 1 := by omega
  rcases h with h | h <;> rw [h] <;> simp
theorem pk_nil : ∀ (i n b : Nat), n % 2 ^ i = 0 → pk i n b = []
  | 0, _, _, _ => rfl
  | i + 1, n, b, h => by
    rw [mod_succ] at h
    have p := Nat.pow_pos (a := 2) (n := i) (by decide)
    unfold pk
    cases t : n.testBit i with
    | true => rw [t] at h; simp at h
    | false => rw [t] at h; simp at h; simp; exact pk_nil i n b h
theorem pk_ne : ∀ (i n b : Nat), n % 2 ^ i ≠ 0 → pk i n b ≠ []
  | 0, _, _, h => by simp [Nat.mod_one] at h
  | i + 1, n, b, h => by
    rw [mod_succ] at h
    unfold pk
    cases t : n.testBit i with
    | true => simp
    | false => rw [t] at h; simp at h; simp; exact pk_ne i n b (by omega)
theorem pk_begin : ∀ (i n b : Nat) (x : Nat × Nat), x ∈ pk i n b → b ≤ x.1 ∧ x.2 < i
  | 0, _, _, _, h => by simp [pk] at h
  | i + 1, n, b, x, h => by
    unfold pk at h
    cases t : n.testBit i with
    | true =>
      rw [t] at h; simp at h
      rcases h with h | h
      · subst h; exact ⟨Nat.le_refl _, Nat.lt_succ_self _⟩
      · have := pk_begin i n _ x h; have p := Nat.pow_pos (a := 2) (n := i) (by decide); omega
    | false =>
      rw [t] at h; simp at h
      have := pk_begin i n _ x h; omega
/-- what the law says of the levels: s the place of the first row, of t rows in all -/
def lev (t : Nat) : Nat → List (Nat × Nat) → List (Nat × Nat × Nat)
  | _, [] => []
  | s, x :: r => (x.1, x.1 + 2 ^ x.2, x.2 + min (s + 1) (t - 1)) :: lev t (s + 1) r
def due (e : Nat) (l : List (Nat × Nat × Nat)) : List Nat := (l.filter fun x => decide (x.1 ≤ e) && decide (e < x.2.1)).map fun x => x.2.2
theorem due_none (t e : Nat) : ∀ (l : List (Nat × Nat)) (s : Nat), (∀ x ∈ l, e < x.1) → due e (lev t s l) = []
  | [], _, _ => rfl
  | x :: r, s, h => by
    have h1 := h x (List.mem_cons_self)
    have ih := due_none t e r (s + 1) fun y hy => h y (List.mem_cons_of_mem _ hy)
    show List.map _ (List.filter _ ((x.1, x.1 + 2 ^ x.2, x.2 + min (s + 1) (t - 1)) :: lev t (s + 1) r)) = []
    rw [List.filter_cons, if_neg (by simp; omega)]
    exact ih
theorem due_is (n e : Nat) : ∀ (i b s : Nat), b ≤ e → e < b + n % 2 ^ i → due e (lev (s + (pk i n b).length) s (pk i n b)) = [(sib b (n % 2 ^ i) e).length + min s (s + (pk i n b).length - 1)] := by
  intro i
  induction i with
  | zero => intro b s h1 h2; simp [Nat.mod_one] at h2; omega
  | succ i ih =>
    intro b s h1 h2
    have p := Nat.pow_pos (a := 2) (n := i) (by decide)
    have ml := Nat.mod_lt n p
    cases t : n.testBit i with
    | false =>
      have e1 : n % 2 ^ (i + 1) = n % 2 ^ i := by rw [mod_succ, t]; simp
      have e2 : pk (i + 1) n b = pk i n b := by show (if n.testBit i = true then _ else _) = _; rw [t]; simp
      rw [e1] at h2
      rw [e1, e2]; exact ih b s h1 h2
    | true =>
      have e1 : n % 2 ^ (i + 1) = 2 ^ i + n % 2 ^ i := by rw [mod_succ, t]; simp
      have e2 : pk (i + 1) n b = (b, i) :: pk i n (b + 2 ^ i) := by show (if n.testBit i = true then _ else _) = _; rw [t]; simp
      rw [e1] at h2
      rw [e1, e2, List.length_cons]
      by_cases r0 : n % 2 ^ i = 0
      · rw [pk_nil i n _ r0, r0]
        rw [r0] at h2
        rw [Nat.add_zero] at h2
        rw [Nat.add_zero (2 ^ i), sib_len_pow i b e h1 h2]
        show List.map _ (List.filter _ [(b, b + 2 ^ i, i + min (s + 1) (s + (0 + 1) - 1))]) = _
        rw [List.filter_cons, if_pos (by simp; omega)]
        simp
      · have hne : 1 ≤ (pk i n (b + 2 ^ i)).length := by
          have := pk_ne i n (b + 2 ^ i) r0
          cases hh : pk i n (b + 2 ^ i) with
          | nil => exact absurd hh this
          | cons _ _ => rw [List.length_cons]; omega
        have g : gp (2 ^ i + n % 2 ^ i) = 2 ^ i := gp_eq (by omega) (by omega)
        by_cases k : e < b + 2 ^ i
        · rw [sib_low (by omega) (by rw [g]; exact k), g, List.length_cons, sib_len_pow i b e h1 k]
          have d := due_none (s + ((pk i n (b + 2 ^ i)).length + 1)) e (pk i n (b + 2 ^ i)) (s + 1) fun x hx => by have := pk_begin _ _ _ x hx; omega
          show List.map _ (List.filter _ ((b, b + 2 ^ i, i + min (s + 1) (s + ((pk i n (b + 2 ^ i)).length + 1) - 1)) :: lev (s + ((pk i n (b + 2 ^ i)).length + 1)) (s + 1) (pk i n (b + 2 ^ i)))) = _
          rw [List.filter_cons, if_pos (by simp; omega), List.map_cons]
          have d' : List.map (fun x => x.2.2) (List.filter (fun x => decide (x.1 ≤ e) && decide (e < x.2.1)) (lev (s + ((pk i n (b + 2 ^ i)).length + 1)) (s + 1) (pk i n (b + 2 ^ i)))) = [] := d
          rw [d']
          simp
          omega
        · rw [sib_high (by omega) (by rw [g]; exact k), g, List.length_cons, Nat.add_sub_cancel_left]
          have q := ih (b + 2 ^ i) (s + 1) (by omega) (by omega)
          have e3 : s + 1 + (pk i n (b + 2 ^ i)).length = s + ((pk i n (b + 2 ^ i)).length + 1) := by omega
          rw [e3] at q
          show List.map _ (List.filter _ ((b, b + 2 ^ i, i + min (s + 1) (s + ((pk i n (b + 2 ^ i)).length + 1) - 1)) :: lev (s + ((pk i n (b + 2 ^ i)).length + 1)) (s + 1) (pk i n (b + 2 ^ i)))) = _
          rw [List.filter_cons, if_neg (by simp; omega)]
          refine Eq.trans q ?_
          congr 1
          omega
/-! ### which pairs are nodes -/
/-- the bits of m - 1 -/
def lb (m : Nat) : Nat := if m ≤ 1 then 0 else Nat.log2 (m - 1) + 1
theorem lb_le {x i : Nat} (h : x ≤ 2 ^ i) : lb x ≤ i := by
  unfold lb
  by_cases k : x ≤ 1
  · rw [if_pos k]; omega
  · rw [if_neg k]
    have h1 := Nat.log2_self_le (n := x - 1) (by omega)
    have h2 : 2 ^ Nat.log2 (x - 1) < 2 ^ i := by omega
    exact (Nat.pow_lt_pow_iff_right (by decide : 1 < 2)).mp h2
theorem lb_ge (x : Nat) : x ≤ 2 ^ lb x := by
  unfold lb
  by_cases k : x ≤ 1
  · rw [if_pos k]; omega
  · rw [if_neg k]
    have := Nat.lt_log2_self (n := x - 1)
    omega
theorem lb_pow (i : Nat) : lb (2 ^ i) = i := by
  have h1 := lb_le (Nat.le_refl (2 ^ i))
  have h2 := (Nat.pow_le_pow_iff_right (by decide : 1 < 2)).mp (lb_ge (2 ^ i))
  omega
theorem lb_gp {m : Nat} (h : 2 ≤ m) : 2 ^ lb m = 2 * gp m := by
  unfold lb gp; rw [if_neg (by omega), Nat.pow_succ]; omega
def tree (n b m : Nat) : Prop := 2 ^ lb m ∣ b ∧ (m = 2 ^ lb m ∨ b + m = n)
theorem tree_root (n : Nat) : tree n 0 n := ⟨Nat.dvd_zero _, .inr (Nat.zero_add _)⟩
theorem tree_low {n b m : Nat} (h : 2 ≤ m) (t : tree n b m) : tree n b (gp m) := by
  obtain ⟨d, _⟩ := t
  rw [lb_gp h] at d
  have e : 2 ^ lb (gp m) = gp m := by unfold gp; rw [lb_pow]
  exact ⟨by rw [e]; exact Nat.dvd_trans (Nat.dvd_mul_left _ _) d, .inl e.symm⟩
theorem tree_high {n b m : Nat} (h : 2 ≤ m) (t : tree n b m) : tree n (b + gp m) (m - gp m) := by
  obtain ⟨d, k⟩ := t
  rw [lb_gp h] at d k
  have g1 := gp_lt h
  have g2 := gp_ge h
  have dg : 2 ^ lb (m - gp m) ∣ gp m := by
    have : lb (m - gp m) ≤ Nat.log2 (m - 1) := lb_le (by unfold gp at g1 g2 ⊢; omega)
    exact Nat.pow_dvd_pow 2 this
  refine ⟨Nat.dvd_add (Nat.dvd_trans dg (Nat.dvd_trans (Nat.dvd_mul_left _ _) d)) dg, ?_⟩
  rcases k with k | k
  · left
    have e : m - gp m = gp m := by omega
    rw [e]
    unfold gp; rw [lb_pow]
  · right; omega
theorem sib_len_le : ∀ (m b e : Nat), b ≤ e → e < b + m → (sib b m e).length ≤ lb m := by
  intro m
  induction m using Nat.strongRecOn with
  | ind m ih =>
    intro b e h1 h2
    by_cases hm : m ≤ 1
    · rw [sib_one hm]; exact Nat.zero_le _
    · have g1 := gp_lt (m := m) (by omega)
      have g2 := gp_ge (m := m) (by omega)
      have g3 := gp_pos m
      have e1 : lb m = Nat.log2 (m - 1) + 1 := by unfold lb; rw [if_neg hm]
      by_cases k : e < b + gp m
      · rw [sib_low (by omega) k, List.length_cons]
        have := ih (gp m) g1 b e h1 k
        have e2 : lb (gp m) = Nat.log2 (m - 1) := by unfold gp; rw [lb_pow]
        omega
      · rw [sib_high (by omega) k, List.length_cons]
        have := ih (m - gp m) (by omega) (b + gp m) e (by omega) (by omega)
        have e2 : lb (m - gp m) ≤ Nat.log2 (m - 1) := lb_le (by unfold gp at g1 g2 ⊢; omega)
        omega
end LT
namespace LT
open PySem PySem.Spec PyProof.Rows L2
def topS (i : Nat) : Stmt := PySem.Challenge.pw_logtrees_k39_text_errors.main.body.getD i (.Pass ⟨0, 0, 0, 0⟩)
abbrev sIsWhole : Stmt := topS 20
theorem scIsWhole : FnScope ["value"] ["value"] (defScope sIsWhole) := ⟨rfl, rfl, rfl, by decide +kernel, rfl, by decide +kernel, by decide +kernel⟩
abbrev sIsBetween : Stmt := topS 21
theorem scIsBetween : FnScope ["value", "low", "high"] ["value", "low", "high"] (defScope sIsBetween) := ⟨rfl, rfl, rfl, by decide +kernel, rfl, by decide +kernel, by decide +kernel⟩
abbrev sIsTreeNode : Stmt := topS 22
theorem scIsTreeNode : FnScope ["size", "value", "begin", "end", "room"] ["size", "value"] (defScope sIsTreeNode) := ⟨rfl, rfl, rfl, by decide +kernel, rfl, by decide +kernel, by decide +kernel⟩
abbrev sIsListOf : Stmt := topS 23
theorem scIsListOf : FnScope ["value", "least", "most"] ["value", "least", "most"] (defScope sIsListOf) := ⟨rfl, rfl, rfl, by decide +kernel, rfl, by decide +kernel, by decide +kernel⟩
abbrev sCheckSize : Stmt := topS 24
theorem scCheckSize : FnScope ["size"] ["size"] (defScope sCheckSize) := ⟨rfl, rfl, rfl, by decide +kernel, rfl, by decide +kernel, by decide +kernel⟩
abbrev sCheckNodes : Stmt := topS 25
theorem scCheckNodes : FnScope ["size", "nodes", "least", "most", "item", "node"] ["size", "nodes", "least", "most"] (defScope sCheckNodes) := ⟨rfl, rfl, rfl, by decide +kernel, rfl, by decide +kernel, by decide +kernel⟩
abbrev sTextOf : Stmt := topS 29
theorem scTextOf : FnScope ["nodes", "begin", "end"] ["nodes"] (defScope sTextOf) := ⟨rfl, rfl, rfl, by decide +kernel, rfl, by decide +kernel, by decide +kernel⟩
abbrev sNumberOf : Stmt := topS 30
theorem scNumberOf : FnScope ["word"] ["word"] (defScope sNumberOf) := ⟨rfl, rfl, rfl, by decide +kernel, rfl, by decide +kernel, by decide +kernel⟩
abbrev sShowNodes : Stmt := topS 31
theorem scShowNodes : FnScope ["size", "nodes"] ["size", "nodes"] (defScope sShowNodes) := ⟨rfl, rfl, rfl, by decide +kernel, rfl, by decide +kernel, by decide +kernel⟩
abbrev sReadNodes : Stmt := topS 32
theorem scReadNodes : FnScope ["size", "text", "nodes", "part", "words", "first", "_", "last", "node"] ["size", "text"] (defScope sReadNodes) := ⟨rfl, rfl, rfl, by decide +kernel, rfl, by decide +kernel, by decide +kernel⟩
abbrev sLawBag : Stmt := topS 34
theorem scLawBag : FnScope ["cell"] ["cell"] (defScope sLawBag) := ⟨rfl, rfl, rfl, by decide +kernel, rfl, by decide +kernel, by decide +kernel⟩
abbrev sLawPick : Stmt := topS 35
theorem scLawPick : FnScope ["bag", "many", "told", "seed", "turn", "first", "second", "drawn"] ["bag", "many"] (defScope sLawPick) := ⟨rfl, rfl, rfl, by decide +kernel, rfl, by decide +kernel, by decide +kernel⟩
abbrev sLawClass : Stmt := topS 44
theorem scLawClass : FnScope ["caught", "some", "found", "name", "is_one"] ["caught"] (defScope sLawClass) := ⟨rfl, rfl, rfl, by decide +kernel, rfl, by decide +kernel, by decide +kernel⟩
abbrev sLawWord : Stmt := topS 45
theorem scLawWord : FnScope ["many", "some", "caught", "kept", "e"] ["many", "some"] (defScope sLawWord) := ⟨rfl, rfl, rfl, by decide +kernel, rfl, by decide +kernel, by decide +kernel⟩
abbrev sLawRead : Stmt := topS 46
theorem scLawRead : FnScope ["many", "text", "caught", "e"] ["many", "text"] (defScope sLawRead) := ⟨rfl, rfl, rfl, by decide +kernel, rfl, by decide +kernel, by decide +kernel⟩
abbrev sLawBadNodes : Stmt := topS 47
theorem scLawBadNodes : FnScope ["many", "found"] ["many"] (defScope sLawBadNodes) := ⟨rfl, rfl, rfl, by decide +kernel, rfl, by decide +kernel, by decide +kernel⟩
abbrev sLaw : Stmt := topS 48
theorem scLaw : FnScope ["script", "cell", "bag", "many", "some", "bad", "told", "at"] ["script"] (defScope sLaw) := ⟨rfl, rfl, rfl, by decide +kernel, rfl, by decide +kernel, by decide +kernel⟩
/-- a def as it stands behind the top -/
structure At (K : PySem.W.Frag) (mg : Str → Option Value) (x : Str) (f : Addr) (fd : FuncData) (ps : List Str) : Prop where
  m : mg x = some (.ref f)
  kp : PySem.W.keepIn K (.ref f) = true
  b : Binds K fd ps []
theorem units1 {k : Nat} {A : Around} (r : Room k A) : A.units + 65 < cLine := by have := r.un; omega
/-- all but b as it was -/
def But (b : Addr) (H H' : Hp) : Prop := ∀ a o, a ≠ b → H a = some o → H' a = some o
theorem But.refl (b : Addr) (H : Hp) : But b H H := fun _ _ _ h => h
theorem But.trans {b : Addr} {H H1 H2 : Hp} (x : But b H H1) (y : But b H1 H2) : But b H H2 := fun a o n h => y a o n (x a o n h)
theorem But.of {b : Addr} {H H1 : Hp} (x : Same H H1) : But b H H1 := fun a o _ h => x a o h
theorem same_upd {H : Hp} {p : Addr} {o : HO} (h : H p = none) : Same H (upd H p o) := fun b x e => by
  rw [upd_ne (ne_of_none e h)]
  exact e
def BagAt (H : Hp) (b : Addr) : Prop := ∃ x y z : Int, H b = some (.lst [.int x, .int y, .int z])
theorem BagAt.same {H H' : Hp} {b : Addr} (h : BagAt H b) (s : Same H H') : BagAt H' b := by
  obtain ⟨x, y, z, e⟩ := h
  exact ⟨x, y, z, s _ _ e⟩
/-- a pair of ints -/
def Nd (H : Hp) (v : V) (x : Nat × Nat) : Prop := ∃ p, v = .ref p ∧ H p = some (.tup [.int x.1, .int x.2])
theorem Nd.same {H H' : Hp} {v : V} {x : Nat × Nat} (h : Nd H v x) (s : Same H H') : Nd H' v x := by
  obtain ⟨p, e, q⟩ := h
  exact ⟨p, e, s _ _ q⟩
theorem Nd.dp {K : PySem.W.Frag} {H : Hp} {v : V} {x : Nat × Nat} (h : Nd H v x) : Dp K H v (.tuple [.int x.1, .int x.2]) := by
  obtain ⟨p, rfl, q⟩ := h
  exact .tup (SqT.of q) (.cons (.int _) (.cons (.int _) .nil))
theorem nd_shaped (a b : Int) : SeqAt.shaped (.tuple [.int a, .int b]) = true := by
  show (PyData.canLay0 _ && decide (PyData.depth _ ≤ 64)) = true
  simp [PyData.canLay0, PyData.canLayAll0, PyData.depth, PyData.depthAll]
theorem nd_eqv (a b c d : Int) : PyData.eqv (.tuple [.int a, .int b]) (.tuple [.int c, .int d]) = (decide (a = c) && decide (b = d)) := by
  have e : PyData.eqv (.tuple [.int a, .int b]) (.tuple [.int c, .int d]) = ((a == c) && ((b == d) && true)) := by simp only [PyData.eqv, PyData.eqvAll]
  rw [e, Bool.and_true]
  by_cases h1 : a = c <;> by_cases h2 : b = d <;> simp [h1, h2]
/-- lists of values and what they stand for -/
inductive All2 {α : Type} (R : V → α → Prop) : List V → List α → Prop
  | nil : All2 R [] []
  | cons {v : V} {x : α} {vs : List V} {xs : List α} : R v x → All2 R vs xs → All2 R (v :: vs) (x :: xs)
section
variable {α : Type} {R R' : V → α → Prop}
theorem All2.mono (f : ∀ v x, R v x → R' v x) : ∀ {vs : List V} {xs : List α}, All2 R vs xs → All2 R' vs xs
  | _, _, .nil => .nil
  | _, _, .cons h t => .cons (f _ _ h) (All2.mono f t)
theorem All2.len : ∀ {vs : List V} {xs : List α}, All2 R vs xs → vs.length = xs.length
  | _, _, .nil => rfl
  | _, _, .cons _ t => by rw [List.length_cons, List.length_cons, All2.len t]
theorem All2.app : ∀ {vs : List V} {xs : List α} {us : List V} {ys : List α}, All2 R vs xs → All2 R us ys → All2 R (vs ++ us) (xs ++ ys)
  | _, _, _, _, .nil, h => h
  | _, _, _, _, .cons h t, k => .cons h (All2.app t k)
theorem All2.rev : ∀ {vs : List V} {xs : List α}, All2 R vs xs → All2 R vs.reverse xs.reverse
  | _, _, .nil => .nil
  | _, _, .cons h t => by
    rw [List.reverse_cons, List.reverse_cons]
    exact All2.app (All2.rev t) (.cons h .nil)
theorem All2.nth : ∀ {vs : List V} {xs : List α} {i : Nat} {v : V}, All2 R vs xs → vs[i]? = some v → ∃ x, xs[i]? = some x ∧ R v x
  | _, _, _, _, .nil, h => by simp at h
  | _, _, 0, _, .cons h t, e => by
    have := Option.some.inj e
    subst this
    exact ⟨_, rfl, h⟩
  | _, _, i + 1, _, .cons h t, e => by
    rw [List.getElem?_cons_succ] at e ⊢
    exact All2.nth t e
theorem All2.nth2 : ∀ {vs : List V} {xs : List α} {i : Nat} {x : α}, All2 R vs xs → xs[i]? = some x → ∃ v, vs[i]? = some v ∧ R v x
  | _, _, _, _, .nil, h => by simp at h
  | _, _, 0, _, .cons h t, e => by
    have := Option.some.inj e
    subst this
    exact ⟨_, rfl, h⟩
  | _, _, i + 1, _, .cons h t, e => by
    rw [List.getElem?_cons_succ] at e ⊢
    exact All2.nth2 t e
end

/-! ### rules within a comprehension: what they say of the written part is said of the def's -/
section
open PySem L2
variable {X : Cx} {s : Shared} {H : Hp} {sc : Scope} {ce : Env} {fp : List Addr}
theorem pg_tupB {es : List Expr} {k : Nat} {pos : Pos} {t : TGs} {n : Nat} (hc : X.calm = true) (h : PGs (X.blk s H sc ce fp) es t)
    (hn : (assignEach es (X.blk s H sc ce fp).env).length = n := by rfl) (hst : (assignEach es (X.blk s H sc ce fp).env).findIdx? (·.1) = none := by rfl) : PG (X.blk s H sc ce fp) (.Tuple es k pos) (gTup X.K n t) := pg_tup hc h hn hst
theorem ix_listB : IxR (X.blk s H sc ce fp) (rIxL X.K) := ix_list
theorem ix_tupB : IxR (X.blk s H sc ce fp) (rIxT X.K) := ix_tup
theorem call_len_seqB : CallR (X.blk s H sc ce fp) (.builtin "len") (fun xs H Q => ∃ p ys, xs = [.ref p] ∧ (SqL X.K H p ys ∨ SqT X.K H p ys) ∧ Q (.int ys.length) H) := call_len_seq
theorem op_eqDB (hu : X.A.units + 64 < cLine) : OpR (X.blk s H sc ce fp) (compareOp .Eq) (rEqD X.K) := op_eqD (X := X.blk s H sc ce fp) hu
theorem op_neDB (hu : X.A.units + 64 < cLine) : OpR (X.blk s H sc ce fp) (compareOp .NotEq) (rNeD X.K) := op_neD (X := X.blk s H sc ce fp) hu
theorem op_inDB (hu : X.A.units + 65 < cLine) : OpR (X.blk s H sc ce fp) (compareOp .In) (rInD X.K) := op_inD (X := X.blk s H sc ce fp) hu
theorem op_notInDB (hu : X.A.units + 65 < cLine) : OpR (X.blk s H sc ce fp) (compareOp .NotIn) (rNotInD X.K) := op_notInD (X := X.blk s H sc ce fp) hu
end
theorem Nd.upd {H : Hp} {v : V} {x : Nat × Nat} {s : Addr} {xs : List V} {o : HO} (h : Nd H v x) (hs : H s = some (.lst xs)) : Nd (upd H s o) v x := by
  obtain ⟨p, e, q⟩ := h
  exact ⟨p, e, by rw [upd_ne (ne_of q hs (by intro z; cases z))]; exact q⟩
def full (x : Nat × Nat) : Nat × Nat := (x.1, x.1 + 2 ^ x.2)
theorem pk_len : ∀ (i n b : Nat), (pk i n b).length ≤ i
  | 0, _, _ => Nat.le_refl _
  | i + 1, n, b => by
    show (if n.testBit i = true then (b, i) :: pk i n (b + 2 ^ i) else pk i n b).length ≤ i + 1
    by_cases t : n.testBit i = true
    · rw [if_pos t, List.length_cons]
      exact Nat.succ_le_succ (pk_len i n _)
    · rw [if_neg t]
      exact Nat.le_succ_of_le (pk_len i n b)
theorem take_more {α : Type} : ∀ {l : List α} {i : Nat} {x : α}, l[i]? = some x → l.take (i + 1) = l.take i ++ [x]
  | [], i, x, h => by simp at h
  | a :: l, 0, x, h => by
    have e : a = x := Option.some.inj h
    subst e
    rfl
  | a :: l, i + 1, x, h => by
    have ih := take_more (l := l) (i := i) (x := x) h
    show a :: l.take (i + 1) = a :: l.take i ++ [x]
    rw [ih]
    rfl
theorem szle {n : Nat} (h : n ≤ 100000) : n ≤ sizeLine := Nat.le_trans h (by decide)
theorem szlt {n : Nat} (h : n < 100000) : n < sizeLine := Nat.lt_of_lt_of_le h (by decide)
end LT

namespace LT
open PySem PySem.Spec PyProof.Rows L2
/-! ### a caught exception that is kept behind its suite -/
/-- an exception of the class cls at a, its own dict at d, if any -/
def ExK (cls : Value) (d : Option Addr) (a : Addr) : HO := .ext fun h => ∃ (ob : Obj) (fs : Array Value), h.get? a = some ob ∧ Zc cls d ob ∧ ob.data = .fields fs
theorem exK_ok {P : Program} {w : World} {H : Hp} {h : Heap} {a : Addr} {cls : Value} {d : Option Addr} {ob : Obj} {fs : Array Value} (e : h.get? a = some ob) (z : Zc cls d ob) (df : ob.data = .fields fs) : ObjOk P w H h a (ExK cls d a) :=
  ⟨⟨ob, fs, e, z, df⟩, ⟨ob, e⟩, fun _ _ ⟨o, v, q, r⟩ k => ⟨o, v, k o q, r⟩⟩
section
variable {X : Cx} {pins : List (Addr × Obj)} {σ : L2.St} {H : Hp} {s : Shared}
/-- it is told of from now on -/
theorem Inv.adopt {a : Addr} {cls : Value} {d : Option Addr} {ob : Obj} {fs : Array Value} (I : Inv X pins σ H s) (e : s.heap.get? a = some ob) (z : Zc cls d ob) (df : ob.data = .fields fs) (na : H a = none) (n0 : X.s_0.heap.get? a = none)
    (nL : a ≠ X.env.locals) (np : ∀ p ∈ X.pn ++ pins, p.1 ≠ a) : Inv X pins σ (upd H a (ExK cls d a)) s := by
  have ne0 : ∀ b o, X.s_0.heap.get? b = some o → b ≠ a := fun b o q y => by
    rw [y, n0] at q
    cases q
  refine ⟨I.ok, I.os, I.bare, ⟨I.base.keep, I.base.slot, ?_, I.base.there, ?_, ?_, ?_⟩, I.loc, I.cell, ?_, ?_, ?_, ?_, I.len⟩
  · intro b o q n hx
    rw [upd_ne (ne0 b o q)]
    exact I.base.free b o q n hx
  · intro b xs q
    have y := I.base.tups b xs q
    rw [upd_ne (ne_of_none y na)]
    exact y
  · intro b o u q
    have y := I.base.frzs b o u q
    rw [upd_ne (ne_of_none y na)]
    exact y
  · intro b ps q
    obtain ⟨m, y⟩ := I.base.tbls b ps q
    exact ⟨m, by rw [upd_ne (ne_of_none y na)]; exact y⟩
  · rw [upd_ne (fun y => nL y.symm)]
    exact I.free
  · intro x c q
    obtain ⟨v, o, ho, hd⟩ := I.cell x c q
    rw [upd_ne (fun y => by rw [y, e] at ho; cases ho; rw [df] at hd; cases hd)]
    exact I.freeC x c q
  · intro p hp
    obtain ⟨q1, q2, q3⟩ := I.pin p hp
    exact ⟨q1, by rw [upd_ne (np p hp)]; exact q2, q3⟩
  · exact HOk.laidN I.hok (fun _ _ q => q) na (exK_ok e z df)
end
/-- what the ends of a suite say, once the name of its clause has gone and the exception is told of -/
def endsK (i : Nat) (a : Addr) (cls : Value) (d : Option Addr) (D : Ends) : Ends :=
  { nx := fun σ' H' => H' a = none → D.nx (σ'.set i none) (upd H' a (ExK cls d a)), rt := fun v H' => H' a = none → D.rt v (upd H' a (ExK cls d a)),
    bk := fun σ' H' => H' a = none → D.bk (σ'.set i none) (upd H' a (ExK cls d a)), ct := fun σ' H' => H' a = none → D.ct (σ'.set i none) (upd H' a (ExK cls d a)) }
def wKeep (K : PySem.W.Frag) (c : Value) (i : Nat) (ts : Addr → Value → Option Addr → TS) (Wout : WX) (D : Ends) : WX := fun cls d σ H =>
  ∃ b, PySem.W.exmOne K cls c = some b ∧ (b = true → ∀ a, H a = none → ts a cls d (endsK i a cls d D) (σ.set i (some (.ref a))) H) ∧ (b = false → Wout cls d σ H)
section
variable {X : Cx} {x n : Str} {c : Value} {i : Nat} {body suite : List Stmt} {st0 : Stmt} {p1 p2 p3 : Pos} {tb : WX → TS} {ts : Addr → Value → Option Addr → TS} {Wout : WX}
theorem ps_try_keep (hst : X.stack = X.env :: X.outer) (hex : X.ex = []) (hfr : X.env.frame = some X.env.locals) (nod : X.N.Nodup) (slot : X.N[i]? = some n) (own : X.env.kindOf n = some .local) (hc : Names X x c) (tk : Takes X Wout)
    (hb : ∀ (W : WX) (pn : List (Addr × Obj)) (xe : Value → Shared → Prop), Takes (X.tr pn xe) W → PassesOwn (model X.prog X.w) X.A X.env xe → PSs (X.tr pn xe) body (tb W))
    (hsu : ∀ (a : Addr) (ob : Obj) (cls : Value) (d : Option Addr) (pn : List (Addr × Obj)), Zc cls d ob → (∃ fs, ob.data = .fields fs) → PSs (X.suite a ((a, ob) :: pn)) (st0 :: suite) (ts a cls d)) :
    PS X (.Try body [.ExceptHandler (some (.Name x p1)) (some n) (st0 :: suite) p2] [] [] p3) (fun D σ H => tb (wKeep X.K c i ts Wout D) D σ H) := by
  refine ⟨?_⟩
  intro pins s σ H D I h
  have okX := I.ok
  have frms : X.A.frames = some (X.env :: X.outer) := okX.frames.trans (congrArg some hst)
  have locn : Loc X.env.scope n := .inl own
  refine wpAny_Try_except ?_
  let land : Value → Shared → Prop := fun e u1 => wpAny (model X.prog X.w) X.A (noteFrame e X.env) (fun _ u2 => wpAny (model X.prog X.w) X.A (setFlight e none)
    (fun _ u3 => wpAny (model X.prog X.w) X.A (handleBy e X.env [.ExceptHandler (some (.Name x p1)) (some n) (st0 :: suite) p2]) (SP X pins D) X.xe u3) X.xe u2) X.xe u1
  have catch_ : Takes (X.tr (X.pn ++ pins) land) (wKeep X.K c i ts Wout D) := by
    rintro u s' ⟨a, B, sI, pins', τ, G, cls, d, rfl, J', ground, up, sky, na, os, ag, b, hb1, yes, no⟩
    have J : Inv X pins τ G sI := J'.ofTry okX
    have sky1 : Sky B (X.env :: X.outer) a (Zc cls d) X.env.locals s'.heap := hst ▸ sky
    show wpAny (model X.prog X.w) X.A (noteFrame (.ref a) X.env) _ _ _
    refine Sky.land Zc.steady frms hfr sky1 fun ha fa upa => ?_
    have Ja : Inv X pins τ G { s' with heap := ha } := J.landed ground fa.1 (up.trans upa) os ag
    obtain ⟨oa, va, geta, za, da⟩ := fa.there
    have offStack : a ∉ frs (X.env :: X.outer) := fun hm => by
      obtain ⟨_, o', e', hnf⟩ := Heap.FunFrames.mem fa.2.2.1 hm
      rw [geta] at e'
      cases e'
      exact hnf _ da
    have nL : a ≠ X.env.locals := fun y => offStack (List.mem_filterMap.mpr ⟨X.env, List.mem_cons_self, by rw [hfr, y]⟩)
    have nF : a ∉ X.fs := fun hm => by
      obtain ⟨e, he, q⟩ := List.mem_filterMap.mp hm
      exact offStack (List.mem_filterMap.mpr ⟨e, List.mem_cons_of_mem _ he, q⟩)
    -- it was not there before
    have newI : sI.heap.get? a = none := by
      cases q : sI.heap.get? a with
      | none => rfl
      | some o =>
        have y := ground a o q (by rw [hst]; exact offStack)
        rw [fa.2.1] at y
        cases y
    have new0 : X.s_0.heap.get? a = none := by
      cases q : X.s_0.heap.get? a with
      | none => rfl
      | some o =>
        obtain ⟨o', y⟩ := J.base.there a o q (by rw [hex]; exact List.not_mem_nil)
        rw [newI] at y
        cases y
    have npin : ∀ p ∈ X.pn ++ pins, p.1 ≠ a := fun p hp y => by
      have q := (J.pin p hp).1
      rw [y, newI] at q
      cases q
    have Sa := Ja.suite geta da na nL nF
    refine wpAny_handleBy_cons (codeAny_handlers_test ?_) (fun q => by cases q)
    have tyA : PySem.W.Looks (model X.prog X.w) ha (typeOf (.ref a)) cls := fun A Q E s k q => wpAny_typeOf_ref (k _ _ geta) (by rw [za.1]; exact q)
    have asked := PySem.W.exm_one (M := model X.prog X.w) (Ja.kIn) tyA hb1
    have named : ∀ {Q : Value → Shared → Prop} {E : Value → Shared → Prop}, Q c { s' with heap := ha } → wpAny (model X.prog X.w) (X.A.mark (some (.ref a))) (eval (.Name x p1) X.env) Q E { s' with heap := ha } := by
      intro Q E q
      obtain ⟨hg, hdbg, hm | ⟨hm, hv, hnn⟩⟩ := hc
      · exact ld_glob (X := X.suite a ((a, oa) :: (X.pn ++ pins))) Sa hg hm q hdbg
      · exact ld_blt (X := X.suite a ((a, oa) :: (X.pn ++ pins))) Sa hg hm hv q hnn hdbg
    refine named (asked.here ?_)
    cases b with
    | true =>
      refine codeAny_handlers_suite_as ?_
      refine HandSPX.lands_againZ fa fun hz fz upz => ?_
      have Jz : Inv X pins τ G { s' with heap := hz } := J.landed ground fz.1 ((up.trans upa).trans upz) os ag
      obtain ⟨oz, vz, getz, zz, dz⟩ := fz.there
      have Sz := Jz.suite getz dz na nL nF
      refine store_ok (X := X.suite a ((a, oz) :: (X.pn ++ pins))) (v := .ref a) Sz nod slot locn rfl ?_ (.inr own)
      intro s5 S5
      refine wpAny_mono ((hsu a oz cls d (X.pn ++ pins) zz ⟨_, dz⟩).run [] s5 _ G _ S5 (yes rfl a na)) ?_ (fun _ _ y => False.elim y)
      intro fl s6 sp
      have fin : ∀ {σ6 : L2.St} {H6 : Hp} {Q : Shared → Prop}, Inv (X.suite a ((a, oz) :: (X.pn ++ pins))) [] σ6 H6 s6 → H6 a = none ∧ ((∀ s7, Inv X pins (σ6.set i none) (upd H6 a (ExK cls d a)) s7 → Q s7) →
          wpAny (model X.prog X.w) X.A (do bindName X.env n .none; unbindBehindTheSuite X.env n p2) (fun _ s7 => Q s7) X.xe s6) := by
        intro σ6 H6 Q S6
        refine ⟨(S6.pin (a, oz) (List.mem_append_left _ List.mem_cons_self)).2.1, fun hq => ?_⟩
        refine gone_ok (X := X.suite a ((a, oz) :: (X.pn ++ pins))) S6 nod slot own fun s7 S7 => hq s7 ?_
        have pa := S7.pin (a, oz) (List.mem_append_left _ List.mem_cons_self)
        exact Inv.adopt (S7.unsuite okX) pa.1 zz dz pa.2.1 new0 nL npin
      cases fl with
      | next =>
        obtain ⟨σ6, H6, S6, q6⟩ := sp
        exact (fin S6).2 fun s7 J7 => ⟨_, _, J7, q6 (fin (Q := fun _ => True) S6).1⟩
      | brk =>
        obtain ⟨σ6, H6, S6, q6⟩ := sp
        exact (fin S6).2 fun s7 J7 => ⟨_, _, J7, q6 (fin (Q := fun _ => True) S6).1⟩
      | cont =>
        obtain ⟨σ6, H6, S6, q6⟩ := sp
        exact (fin S6).2 fun s7 J7 => ⟨_, _, J7, q6 (fin (Q := fun _ => True) S6).1⟩
      | ret u =>
        obtain ⟨v6, σ6, H6, S6, r6, q6⟩ := sp
        exact (fin S6).2 fun s7 J7 => ⟨_, _, _, J7, r6, q6 (fin (Q := fun _ => True) S6).1⟩
    | false =>
      show wpAny _ X.A (handleBy (.ref a) X.env []) _ _ _
      refine wpAny_handleBy_nil ?_
      obtain ⟨_, _, _, ob, fv, T, oT, ts', he, hz, hd, h1, hr⟩ := id fa
      unfold PySem.passOn
      refine wpAny_bind (wpAny_field he hd h1 ?_)
      rw [if_neg (show ¬ ((Value.ref T == Value.none) = true) from by simp)]
      have on_ : wpAny (model X.prog X.w) X.A (setFlight (.ref a) X.env.frame) (fun _ u4 => wpAny (model X.prog X.w) X.A (throw (.ref a) : Sem Flow) (SP X pins D) X.xe u4) X.xe { s' with heap := ha } := by
        rw [hfr]
        refine HandSPX.setFlight_upZ fa fun h4 hh4 up4 => wpAny_throw (tk _ _ ?_)
        exact ⟨a, B, sI, pins, τ, G, cls, d, rfl, J, ground, (up.trans upa).trans up4, .inr (.inr (by rw [hst]; exact hh4)), na, os, ag, no rfl⟩
      first
        | exact wpAny_bind (wpAny_pure (wpAny_bind on_))
        | exact wpAny_bind on_
  refine wpAny_mono ((hb (wKeep X.K c i ts Wout D) (X.pn ++ pins) land catch_ PassesOwn.looking).run [] s σ H D (I.toTry _) h) ?_ (fun e s1 he => he)
  intro fl s1 sp
  cases fl with
  | next =>
    obtain ⟨σ', H', J', q⟩ := sp
    exact wpAny_execs_nil ⟨σ', H', J'.ofTry okX, q⟩
  | brk =>
    obtain ⟨σ', H', J', q⟩ := sp
    exact ⟨σ', H', J'.ofTry okX, q⟩
  | cont =>
    obtain ⟨σ', H', J', q⟩ := sp
    exact ⟨σ', H', J'.ofTry okX, q⟩
  | ret u =>
    obtain ⟨v, σ', H', J', r, q⟩ := sp
    exact ⟨v, σ', H', J'.ofTry okX, r, q⟩
end
section
variable {X : Cx}
/-- isinstance(e, c), e an exception that is kept, without a dict of its own -/
def rIsK (K : PySem.W.Frag) : List V → Hp → VK → Prop := fun xs H Q => ∃ (a D : Addr) (c : V) (cv : Value) (b : Bool), xs = [.ref a, c] ∧ H a = some (ExK (.ref D) none a) ∧ ExcC K D ∧ (∀ u, RelV c u → u = cv) ∧ PySem.W.kitOne K (.ref D) cv = some b ∧ Q (.bl b) H
theorem call_isK : CallR X (.builtin "isinstance") (rIsK X.K) := by
  intro pins s σ H xs us Q I r h
  obtain ⟨a, D, c, cv, b, rfl, ha, C, hcv, e, q⟩ := h
  obtain ⟨u1, us1, rfl, r1, r2⟩ : ∃ u us', us = u :: us' ∧ RelV (.ref a) u ∧ Vals [c] us' := by
    cases r with | cons h t => exact ⟨_, _, rfl, h, t⟩
  obtain ⟨u2, rfl, r3⟩ := vals1 r2
  cases r1
  have ec := hcv _ r3
  subst ec
  obtain ⟨⟨ob, fs, hget, hz, hd⟩, _, _⟩ := I.hok a _ ha
  have J : PySem.W.InstAt s.heap a ob D none := by
    obtain ⟨oc, od, oda, osl⟩ := ob
    obtain ⟨z1, z2⟩ := hz
    dsimp only at z1 z2 hd
    subst z1 z2 hd
    exact ⟨hget, rfl, rfl, trivial⟩
  refine PySem.W.kia_one (PySem.W.handS_kitx_exc C.hg C.hk C.hs C.hd C.ha C.hn C.ht C.hm) I.kIn J e (fun z => nomatch z) ?_
  intro tk
  exact ⟨.bl b, H, I.kept (t' := tk) fun _ _ z => z, rfl, q⟩
end
end LT

namespace LT
open PySem PySem.Spec PyProof.Rows L2
section
variable {X : Cx}
/-- {x}: nothing or an int, as a text -/
def tFmtN (te : TE) : TE := fun σ H Q => te σ H fun x H1 => (x = .non ∧ Q (.str "None") H1) ∨ ∃ i : Int, x = .int i ∧ i.natAbs.log2 < 1920 ∧ Q (.str (toString i)) H1
theorem pe_fmtN {e : Expr} {te : TE} {pos : Pos} (he : PE X e te) : PE X (.FormattedValue e (-1) none pos) (tFmtN te) := by
  refine ⟨fun pins s σ H Q I h => ?_⟩
  refine wpAny_FormattedValue_plain (thn (he.run pins s σ H _ I h) fun v s1 hv => ?_)
  obtain ⟨x, H1, I1, r1, q⟩ := hv
  rcases q with ⟨rfl, q⟩ | ⟨i, rfl, hz, q⟩
  · cases (show v = Value.none from r1)
    exact wpAny_formatField_none ⟨.str "None", H1, I1.tok _, ⟨_, rfl⟩, q⟩
  · obtain ⟨t, rfl⟩ := r1
    exact wpAny_formatField_int hz ⟨.str (toString i), H1, I1.tok _, ⟨_, rfl⟩, q⟩
end
/-- the scope of an __init__ that says super() -/
structure SScope (x : Str) (sc : Scope) : Prop where
  kind : sc.kind = .function
  co : sc.isCoroutine = false
  gen : sc.isGenerator = false
  self : sc.names.lookup ("self" : Str) = some .local
  par : sc.names.lookup x = some .local
  cls : sc.names.lookup ("__class__" : Str) = some .free
  sup : sc.names.lookup ("super" : Str) = some .globalImplicit
  nocell : ∀ y ∈ sc.names, y.2 ≠ .cell
  free : ∀ y ∈ sc.names, y.2 = .free → y.1 = "__class__"
  ne : x ≠ ("self" : Str)
  nd : (x == ("__debug__" : Str)) = false
  nc : (x == ("__classdict__" : Str)) = false
/-- the context of its body -/
def cxS (CX : CXT) (P : Program) (w : World) (K : PySem.W.Frag) (mg : Str → Option Value) (base : Heap) (N : List Str) (qual : Str) (scope : Scope) (f cda cc : Addr) (A : Around) (outer : List Env) (s : Shared) (H : Hp) (E : XK) : Cx where
  prog := P
  w := w
  K := K
  mg := mg
  base := base
  A := A.deeper (PySem.W.ksEnv qual scope s.heap.objs.size f (.ref cda) cc)
  N := N
  s_0 := s
  H_0 := H
  env := PySem.W.ksEnv qual scope s.heap.objs.size f (.ref cda) cc
  outer := outer
  stack := PySem.W.ksEnv qual scope s.heap.objs.size f (.ref cda) cc :: outer
  ex := []
  calm := true
  fn := fun y => y != "__class__"
  pn := []
  xe := fun e s' => wpAny (model P w) (A.deeper (PySem.W.ksEnv qual scope s.heap.objs.size f (.ref cda) cc)) (leaving (PySem.W.ksEnv qual scope s.heap.objs.size f (.ref cda) cc) e) (fun _ s'' => CX outer H s E e s'') (fun e' s'' => CX outer H s E e' s'') s'
/-- what the top says of a class whose __init__ says super().__init__(..) -/
structure Sup (P : Program) (K : PySem.W.Frag) (mg : Str → Option Value) (C cda cc : Addr) (fld : Str) : Prop where
  ex : OexC K C
  nofld : PySem.W.findIn K (.ref C) fld = some none
  sup : PySem.W.ks_superIn K C C "__init__" = some (some (.builtin "ValueError.__init__"))
  ve : PySem.W.subIn K (.ref C) (.type "ValueError") = some true
  own : PySem.W.mroIn K C (.ref C) = some true
  opq : PySem.W.nsIn K cStatics "thirdparty.any" = some none
  cell : ∃ cl cld csl, K.lookup cc = some ⟨cl, cld, .cell (some (.ref C)), csl⟩
  code : ∃ ccl cdd ccs, ∃ vs : Array Value, ∃ (file : Str) (tf : Tok), K.lookup cda = some ⟨ccl, cdd, .fields vs, ccs⟩ ∧ vs[2]? = some (.str file tf) ∧ ((P.main.file : Str) == file) = true
  top : (P.main.scope.names.lookup ("super" : Str)).isSome = false
  z : mg "super" = none
def spInit (C : Addr) (fld : Str) : Sp := fun vs H Q _ => ∃ (a : Addr) (y : V), vs = [.ref a, y] ∧ H a = some (exo a C none) ∧ (y = .non ∨ ∃ i : Int, y = .int i ∧ i.natAbs < 10 ^ 66) ∧
  ∀ dx, H dx = none → dx ≠ a → Q .non (upd (upd H dx (exd dx [(fld, y)])) a (exo a C (some dx)))
section
open PySem.W PySem.HandSPX
variable {prog : Program} {w : World} {A : Around} {E : Value → Shared → Prop} {h : Heap} {g : Array GenState} {d : Drawn} {t : Nat} {os : OsState}
variable {nm q : Str} {C N : Addr} {bs bm : List Value} {hdct : Bool} {sn : List Str} {sub : List Value} {ab : Bool} {col : Option Bool} {dd : Option Addr} {k0 k1 k2 k3 k5 : Option Value}
theorem call_mwV {u e t0 : Addr} {rest : List Value} {Q : Value → Shared → Prop}
    (hC : h.get? C = some (excClassObj nm q C N bs bm hdct sn sub ab col dd k0 k1 k2 k3 k5 "ValueError.__new__")) (he : h.get? e = some (HandSPX.excO C t0)) (hu : h.get? u = some (kxs_mw "ValueError.__init__" e)) (hrest : rest.length ≤ sizeLine)
    (hq : ∀ h' t1, (∀ b o, b ≠ e → h.get? b = some o → h'.get? b = some o) → h'.get? e = some (HandSPX.excO C t1) → Q .none ⟨h', g, d, t, os⟩) :
    wpAny (model prog w) A (call (.ref u) rest) Q E ⟨h, g, d, t, os⟩ := by
  refine wpAny_call (codeAny_of_tree ?_)
  show wpAny _ A.in1 (callAny (.ref u) ⟨rest, []⟩) _ _ _
  simp only [callAny]
  refine wpAny_bind (wpAny_load hu ?_)
  simp only [kxs_mw, show (Value.type "method-wrapper" == Value.type "method" || Value.type "method-wrapper" == Value.type "builtin_function_or_method" || Value.type "method-wrapper" == Value.type "method-wrapper") = true by decide, if_true]
  refine W.KFB.if_so (by decide) ?_
  refine wpAny_bind (ESX.check_bound F.excBase_ValueError hC he rfl ?_)
  refine wpAny_bind (wpAny_pure (wpAny_pure ?_))
  refine ⟨Code.quiet_builtin _ (by decide +kernel), codeAny_builtin F.excBase_ValueError.initEntry ?_⟩
  rw [Around.under_plainId F.excBase_ValueError.init.plain _]
  wp_walk
  refine hq _ h.objs.size (fun b o hb ho => ?_) ?_
  · rw [Heap.get?_update_other _ _ (Ne.symm hb)]
    exact Heap.get?_push_of_some _ ho
  · rw [Heap.get?_update_self _ (Heap.get?_push_of_some _ he) rfl]
    rfl
end
section
variable {CX : CXT} {P : Program} {w : World} {K : PySem.W.Frag} {mg : Str → Option Value} {base : Heap} {k : Nat}
theorem sup_inv {qual x : Str} {scope : Scope} {f cda cc C : Addr} {fld : Str} {A : Around} {outer : List Env} {s : Shared} {H : Hp} {E : XK} {h1 : Heap} {tk : Nat} {u0 u1 : Value} {v0 v1 : V} (S : SScope x scope) (T : Sup P K mg C cda cc fld) (hd : A.handled = none)
    (e0 : Env0 P w K mg base A outer s H) (r0 : RelV v0 u0) (r1 : RelV v1 u1) (hns : h1.Ns s.heap.objs.size (fun y => [(x, u1), ("self", u0)].lookup y)) (hk : ∀ b o, s.heap.get? b = some o → h1.get? b = some o) :
    Inv (cxS CX P w K mg base ["self", x] qual scope f cda cc A outer s H E) [] [some v0, some v1] H { s with heap := h1, toks := tk } := by
  have noA : ∀ b : Addr, b ∉ (cxS CX P w K mg base ["self", x] qual scope f cda cc A outer s H E).ex := fun b z => absurd (show b ∈ ([] : List Addr) from z) (by simp)
  have cl : ∀ {y : Str} {c : Addr}, (cxS CX P w K mg base ["self", x] qual scope f cda cc A outer s H E).env.cells.lookup y = some c → y = "__class__" ∧ c = cc := by
    intro y c h
    have h' : List.lookup y [(("__class__" : Str), cc)] = some c := h
    by_cases hy : y = "__class__"
    · subst hy
      simp [List.lookup] at h'
      exact ⟨rfl, h'.symm⟩
    · have : (y == ("__class__" : Str)) = false := by simpa using hy
      simp [List.lookup, this] at h'
  obtain ⟨ccl, ccd, ccs, hcc⟩ := T.cell
  have hbc := e0.mod.kin _ _ hcc
  refine ⟨⟨e0.mod, S.kind, rfl, rfl, Nat.le_refl _, fun y z c a b => ?_, fun y hy => ?_, fun y c hy a => ?_, fun _ => hd, Around.frames_deeper e0.frames, .inr ⟨rfl, rfl⟩, fun b z => absurd z (noA b), e0.bs, e0.bsz, fun b _ _ => noA b, fun b z => absurd z (noA b), e0.funs, e0.frf⟩,
    rfl, e0.bare, Un.kept hk, ⟨_, hns, fun i y v a b c => ?_⟩, fun y c a => ?_, e0.hok.fresh (Nat.le_refl _), fun y c a => ?_, fun p hp => absurd (show p ∈ ([] : List (Addr × Obj)) from hp) (by simp), e0.hok.kept hk, rfl⟩
  · rw [(cl a).1, (cl b).1]
  · have hy : scope.names.lookup y = some .cell ∨ scope.names.lookup y = some .free := hy
    rcases hy with hy | hy
    · exact absurd rfl (S.nocell _ (PySem.mem_of_lookup hy))
    · have e := S.free _ (PySem.mem_of_lookup hy) rfl
      have e : y = "__class__" := e
      subst e
      exact ⟨cc, by show List.lookup _ [(("__class__" : Str), cc)] = some cc; simp [List.lookup]⟩
  · rw [(cl a).1] at hy
    exact absurd (show (("__class__" : Str) != "__class__") = true from hy) (by simp)
  · match i, a, b with
    | 0, a, b =>
      have ey : "self" = y := Option.some.inj a
      have ev : v0 = v := Option.some.inj (Option.some.inj b)
      subst ey; subst ev
      refine ⟨u0, r0, .inl ⟨S.self, ?_⟩⟩
      have : ((("self" : Str)) == x) = false := by simpa using fun z => S.ne z.symm
      simp [List.lookup, this]
    | 1, a, b =>
      have ey : x = y := Option.some.inj a
      have ev : v1 = v := Option.some.inj (Option.some.inj b)
      subst ey; subst ev
      exact ⟨u1, r1, .inl ⟨S.par, by simp [List.lookup]⟩⟩
    | i + 2, a, b => exact absurd a (by show ¬ ([] : List Str)[i]? = some y; simp)
  · rw [(cl a).2]
    exact ⟨_, _, hk _ _ ((e0.bs _ _ hbc).1), rfl⟩
  · rw [(cl a).2]
    exact (e0.bs _ _ hbc).2
theorem sup_len {i : Int} (h : i.natAbs < 10 ^ 66) : (Str.ofString (toString i)).length ≤ 100 := by
  have e := int_text_length_le10 (a := i) (k := 66) (by decide) h
  rw [PySem.ofString_length]
  omega
theorem sup_sz {n : Nat} (h : n ≤ 5000) : n ≤ sizeLine := by rw [sizeLine_eq]; omega
theorem sup_log {i : Int} (h : i.natAbs < 10 ^ 66) : i.natAbs.log2 < 1920 := by
  by_cases z : i.natAbs = 0
  · rw [z]; decide
  · exact Nat.lt_of_lt_of_le ((Nat.log2_lt (k := 250) z).mpr (Nat.lt_of_lt_of_le h (by decide))) (by decide)
/-- super().__init__(e, ..) in the __init__ of an exception class over ValueError -/
theorem sup_call {X : Cx} {body : List Stmt} {f cda cc C a : Addr} {fld : Str} {fd : FuncData} {ar : Arg} {oc : Value} {od : Option Addr} {osl : Array (Option Value)} {e : Expr} {es : List Expr} {ta : TA} {p0 p1 p2 p7 : Pos} {σ : L2.St} {H : Hp} {s1 : Shared} {Q : Hp → Prop} {pl : Sem Bool}
    (T : Sup X.prog X.K X.mg C cda cc fld) (hks : X.env.kindOf "super" = some .globalImplicit) (hkc : X.env.kindOf "__class__" = some .free) (hka : X.env.kindOf "self" = some .local) (hcell : X.env.cells.lookup ("__class__" : Str) = some cc) (hfu : X.env.func = some f) (hco : X.env.code = .ref cda)
    (lk : X.K.lookup f = some ⟨oc, od, .func fd, osl⟩) (har : (fd.params.posonlyargs ++ fd.params.args).head? = some ar) (hself : ar.arg = "self") (I : Inv X [] σ H s1) (ea : H a = some (exo a C none)) (hN : X.N[0]? = some ("self" : Str)) (hσ : σ[0]? = some (some (V.ref a)))
    (ha : PA X (e :: es) ta)
    (hat : eval (.Call (.Attribute (.Call (.Name "super" p0) [] [] p1) "__init__" p2) (e :: es) [] p7) X.env = (do
      let ov ← attributeBase (.Call (.Name "super" p0) [] [] p1) "__init__" X.env (eval (.Call (.Name "super" p0) [] [] p1) X.env)
      standAt p2.atName
      let (f, first) ← holding [ov] (getMethod ov "__init__" pl)
      callWith p7 f first (backTo p7 (starEach (e :: es) X.env)) []) := by rfl)
    (he : starEach (e :: es) X.env = (false, eval e X.env) :: starEach es X.env := by rfl) (hpl : (backTo p7 (starEach es X.env)).any (·.1) = false := by rfl)
    (h : ta σ H fun vs H1 => vs.length ≤ 1000 ∧ H1 a = some (exo a C none) ∧ Q H1) :
    PySem.wpAt (model X.prog X.w) X.A (.func body X.env) (eval (.Call (.Attribute (.Call (.Name "super" p0) [] [] p1) "__init__" p2) (e :: es) [] p7) X.env) (fun _ s' => ∃ H1, Inv X [] σ H1 s' ∧ Q H1) X.xe s1 := by
  obtain ⟨nm, q, N, bs, bm, sn, sub, ab, col, dd, k0, k1, k2, k3, k5, hC, hbm⟩ := T.ex.cls
  have hcl : PySem.W.clsIn X.K C = some { name := nm, bases := bs, mro := .ref C :: bm, ns := N, qualname := q, hasDict := true, slotNames := sn, subclasses := sub, abstract := ab, collection := col, hasDel := false } := by unfold PySem.W.clsIn; rw [hC] <;> rfl
  obtain ⟨cl, cld, csl, hcc⟩ := T.cell
  obtain ⟨ccl, cdd, ccs, vs, file, tf, hcode, hvs, hfile⟩ := T.code
  have KX := I.kIn
  obtain ⟨t1, ho⟩ := exo_at I.hok ea
  obtain ⟨m, hns, hl⟩ := I.loc
  obtain ⟨u, ru, hu⟩ := hl 0 "self" (.ref a) hN hσ (.inl hka)
  obtain rfl : u = Value.ref a := ru
  have hm : m ("self" : Str) = some (Value.ref a) := by
    rcases hu with ⟨_, e⟩ | ⟨e, _⟩
    · exact e
    · rcases e with e | e <;> rw [hka] at e <;> cases e
  have hCs := KX _ _ hC
  refine ks_wpAt_MethodCall (pl := pl) ?_ hat
  refine ks_wpAt_super_base hks hkc (by decide) hfu (KX _ _ lk) rfl har hco (KX _ _ hcode) rfl hvs hfile T.top ?_
  obtain ⟨mb, hb1, hb2⟩ := I.mod.blt
  refine PySem.W.ks_loadName_global I.ok.kind hks (Calls.loadGlobal_builtin (by rw [I.ok.glob]; exact I.mod.glob.keeps I.bk) T.z (by rw [I.ok.blt]; exact hb1.keeps I.bk) ((hb2 "super" (by decide)).trans (by rfl)) ⟨rfl, ?_⟩)
  refine wpAny_loadName_free I.ok.kind hkc hcell ⟨_, KX _ _ hcc, rfl⟩ ?_
  rw [hself]
  refine wpAny_loadName_local I.ok.kind hka hns hm ?_
  obtain ⟨hh, g, d, t, os⟩ := s1
  refine ks_wpAny_isType_cls hCs rfl ⟨rfl, ?_⟩
  have IA : PySem.W.InstAt hh a { cls := .ref C, dict := none, data := .fields #[.ref t1, .none, .none, .none, .bool false, .none] } C none := ⟨ho, rfl, rfl, trivial⟩
  refine ks_wpAny_call_super hCs rfl ho rfl (fun c => by intro z; cases z) (PySem.W.looks_mroIn KX T.own) (fun h' e1 k1 => ?_)
  have KX' : X.K.In h' := KX.keeps k1
  have IA' : PySem.W.InstAt h' a { cls := .ref C, dict := none, data := .fields #[.ref t1, .none, .none, .none, .bool false, .none] } C none := ⟨k1 _ _ ho, rfl, rfl, trivial⟩
  have hmr : PySem.W.Looks (model X.prog X.w) h' (mroOf (.ref C)) (.ref C :: bm) := (PySem.W.looks_clsIn KX' hcl).andThen .now
  have hal : PySem.W.alongIn X.K "__init__" (((Value.ref C :: bm).dropWhile (· != .ref C)).drop 1) = some (some (.builtin "ValueError.__init__")) := by
    have z := T.sup
    unfold PySem.W.ks_superIn at z
    rw [hcl] at z
    exact z
  have hne : a ≠ C := fun z => by
    rw [z, hCs] at ho
    cases ho
  refine PySem.W.kxs_getMethod PySem.W.kxs_ValueError e1 (PySem.W.looks_opaque KX' T.opq) hmr rfl KX' hal (IA'.type.andThen (PySem.W.looks_subIn KX' T.ve)) hne (by decide) ?_
  have kk : ∀ b o, hh.get? b = some o → (h'.push (PySem.W.kxs_mw "ValueError.__init__" a)).get? b = some o := fun b o z => Heap.get?_push_of_some _ (k1 _ _ z)
  have sz : hh.objs.size ≤ h'.objs.size := Nat.le_of_lt (Heap.lt_size e1)
  have I2 : Inv X [(h'.objs.size, PySem.W.kxs_mw "ValueError.__init__" a)] σ H ⟨h'.push (PySem.W.kxs_mw "ValueError.__init__" a), g, d, t + 1, os⟩ :=
    ClX.pin_new (t' := t + 1) I kk sz (Heap.get?_push_size _ rfl) (fun v => by intro z; cases z)
  show wpAny _ _ (callWith p7 (Value.ref h'.objs.size) [] (backTo p7 (starEach (e :: es) X.env)) []) _ _ _
  have hA := ha.run p7 _ _ σ H _ I2 h
  rw [he] at hA ⊢
  refine PySem.W.kxs_callWith (i := "ValueError.__init__") (x := a) (by show (false || (backTo p7 (starEach es X.env)).any (·.1)) = false; rw [hpl]; rfl) ?_
  refine Calls.evalArgs_plain (thn hA fun us s2 ⟨vs2, H1, I3, rv, hlen, ea1, q⟩ => ?_)
  have hpin := ClX.pin_at I3
  refine ⟨hpin, ?_⟩
  obtain ⟨t2, ho2⟩ := exo_at I3.hok ea1
  obtain ⟨h2, g2, d2, tk2, os2⟩ := s2
  have hlu : us.length ≤ sizeLine := by
    rw [← Paired.length rv, sizeLine_eq]
    omega
  refine call_mwV (I3.kIn _ _ hC) ho2 hpin hlu fun h3 t3 k3 hx => ?_
  have J := I3.write (t' := tk2) (x := a) (e := a) (o := exo a C none) (by rw [ea1]; exact True.intro) (.inl rfl) k3 ⟨_, hx⟩ (exo_ok hx)
  have eu : upd H1 a (exo a C none) = H1 := by
    funext b
    by_cases hb : b = a
    · rw [hb, upd_same, ea1]
    · rw [upd_ne hb]
  rw [eu] at J
  exact ⟨H1, ClX.unpin J, q⟩
theorem ok_init_super {name qual x fld lit : Str} {params : Arguments} {scope : Scope} {dV kV doc pm ct oc : Value} {an od : Option Addr} {osl : Array (Option Value)} {f cda cc C : Addr} {p0 p1 p2 p3 p4 p5 p6 p7 p8 q0 q1 q2 q3 : Pos} {ar : Arg} {kk}
    (lk : K.lookup f = some ⟨oc, od, .func (PySem.W.ksFn name qual params [.Expr (.Call (.Attribute (.Call (.Name "super" p0) [] [] p1) "__init__" p2) [.JoinedStr [.Constant (.str lit) kk p3, .FormattedValue (.Name x p4) (-1) none p5] p6] [] p7) p8, .Assign [.Attribute (.Name "self" q0) fld q1] (.Name x q2) q3] scope dV kV doc pm an (.ref cda) ct cc), osl⟩)
    (hcd : PySem.W.codeIn K (.ref cda) qual = true) (S : SScope x scope) (T : Sup P K mg C cda cc fld) (hlit : lit.length ≤ 1000) (har : (params.posonlyargs ++ params.args).head? = some ar) (hself : ar.arg = "self")
    (hat : ∀ env : Env, ∃ pl : Sem Bool, eval (.Call (.Attribute (.Call (.Name "super" p0) [] [] p1) "__init__" p2) [.JoinedStr [.Constant (.str lit) kk p3, .FormattedValue (.Name x p4) (-1) none p5] p6] [] p7) env = (do
      let ov ← attributeBase (.Call (.Name "super" p0) [] [] p1) "__init__" env (eval (.Call (.Name "super" p0) [] [] p1) env)
      standAt p2.atName
      let (f, first) ← holding [ov] (getMethod ov "__init__" pl)
      callWith p7 f first (backTo p7 (starEach [.JoinedStr [.Constant (.str lit) kk p3, .FormattedValue (.Name x p4) (-1) none p5] p6] env)) []))
    (hsw1 : ∀ env : Env, swapsWith (.Call (.Attribute (.Call (.Name "super" p0) [] [] p1) "__init__" p2) [.JoinedStr [.Constant (.str lit) kk p3, .FormattedValue (.Name x p4) (-1) none p5] p6] [] p7) none p8.line env = pure false)
    (hsw2 : ∀ env : Env, swapsWith (.Name x q2) (some (.Attribute (.Name "self" q0) fld q1)) q3.line env = pure false) :
    FnOk P w K mg base CX (k + 1) f (PySem.W.ksFn name qual params [.Expr (.Call (.Attribute (.Call (.Name "super" p0) [] [] p1) "__init__" p2) [.JoinedStr [.Constant (.str lit) kk p3, .FormattedValue (.Name x p4) (-1) none p5] p6] [] p7) p8, .Assign [.Attribute (.Name "self" q0) fld q1] (.Name x q2) q3] scope dV kV doc pm an (.ref cda) ct cc) ["self", x] (spInit C fld) := by
  refine ⟨fun vs H Q E h => by obtain ⟨_, _, rfl, _⟩ := h; rfl, fun A outer s H args us vs Q E hr e0 hb r hsp => ?_⟩
  obtain ⟨a, y, rfl, ea, hy, hQ⟩ := hsp
  match us, r with
  | [u0, u1], .cons r0 (.cons r1 .nil) =>
  obtain rfl : u0 = Value.ref a := r0
  have KX : K.In s.heap := e0.mod.kin.keeps fun b o e => (e0.bs b o e).1
  have lim : s.heap.NoLimit := e0.mod.nolimit.keeps fun b o e => (e0.bs b o e).1
  refine ks_codeAny_call_defAt hr.depth (KX _ _ lk) rfl lim (PySem.W.codeRec_of KX hcd) rfl hb S.nocell (fun z hz => ?_) (fun h1 hns hk => ?_) S.co S.gen S.kind
  · rcases List.mem_cons.mp hz with e | e
    · rw [e]; exact S.self
    · rcases List.mem_cons.mp e with e | e
      · rw [e]; exact S.par
      · exact absurd e (by simp)
  show PySem.wpAt (model P w) (A.deeper (PySem.W.ksEnv qual scope s.heap.objs.size f (.ref cda) cc)) (.func _ (PySem.W.ksEnv qual scope s.heap.objs.size f (.ref cda) cc)) (execs _ (PySem.W.ksEnv qual scope s.heap.objs.size f (.ref cda) cc)) _ _ _
  have I : Inv (cxS CX P w K mg base ["self", x] qual scope f cda cc A outer s H E) [] [some (.ref a), some y] H { s with heap := h1, toks := s.toks + ((["self", x] : List Str).zip [Value.ref a, u1]).length } := sup_inv S T hr.hd e0 rfl r1 hns hk
  generalize hs1 : ({ s with heap := h1, toks := s.toks + ((["self", x] : List Str).zip [Value.ref a, u1]).length } : Shared) = s1 at I ⊢
  generalize hX : cxS CX P w K mg base ["self", x] qual scope f cda cc A outer s H E = X at I
  have pv : PE X (.Name x q2) (tVar 1) := by rw [← hX]; exact pe_var rfl (.inl S.par) S.nd S.nc
  have pv4 : PE X (.Name x p4) (tVar 1) := by rw [← hX]; exact pe_var rfl (.inl S.par) S.nd S.nc
  have ps : PE X (.Name "self" q0) (tVar 0) := by rw [← hX]; exact pe_var rfl (.inl S.self)
  have pj : PE X (.JoinedStr [.Constant (.str lit) kk p3, .FormattedValue (.Name x p4) (-1) none p5] p6) _ := pe_joined (.cons pe_str (.cons (pe_fmtN pv4) .nil))
  have po : PS X (.Assign [.Attribute (.Name "self" q0) fld q1] (.Name x q2) q3) _ := ps_ost ps pv (by rw [← hX]; exact hsw2 _)
  have pa : PA X [.JoinedStr [.Constant (.str lit) kk p3, .FormattedValue (.Name x p4) (-1) none p5] p6] _ := pa_cons pj pa_nil
  have hargs : (tCons (fun σ H Q => tJs [tC (.str lit), tFmtN (tVar 1)] Str.empty σ H fun out H1 => Q (.str out) H1) tNil) [some (.ref a), some y] H fun vs H1 => vs.length ≤ 1000 ∧ H1 a = some (exo a C none) ∧ H1 = H := by
    have a0 : (Str.empty ++ lit).length ≤ 1000 := by
      rw [PySem.Str.length_append]
      have : Str.empty.length = 0 := rfl
      omega
    refine ⟨lit, rfl, sup_sz (by omega), _, rfl, ?_⟩
    rcases hy with rfl | ⟨i, rfl, hi⟩
    · refine .inl ⟨rfl, _, rfl, ?_, by simp, ea, rfl⟩
      rw [PySem.Str.length_append]
      have : ("None" : Str).length = 4 := rfl
      exact sup_sz (by omega)
    · refine .inr ⟨i, rfl, sup_log hi, _, rfl, ?_, by simp, ea, rfl⟩
      rw [PySem.Str.length_append]
      have := sup_len hi
      exact sup_sz (by omega)
  subst hX
  obtain ⟨pl, hpl⟩ := hat (PySem.W.ksEnv qual scope s.heap.objs.size f (.ref cda) cc)
  refine ks_wpAt_execs_cons (ks_wpAt_Expr_any ?_ (by show (scope.kind == _ && _) = false; rw [S.kind]; rfl) (hsw1 _))
  refine ks_wpAt_mono (sup_call (X := cxS CX P w K mg base ["self", x] qual scope f cda cc A outer s H E) T S.sup S.cls S.self (by show List.lookup _ [(("__class__" : Str), cc)] = some cc; simp [List.lookup]) rfl rfl lk har hself I ea rfl rfl pa (hat := hpl) (h := hargs)) (fun _ s2 hq => ?_) (fun _ _ z => z)
  obtain ⟨H2, I2, rfl⟩ := hq
  have hrun := (pss_one po).run [] s2 [some (.ref a), some y] H2 { nx := fun _ H' => Q .non H', rt := Q } I2 ⟨y, rfl, .ref a, rfl, a, C, rfl, T.ex, T.nofld, .inl ⟨ea, fun dx n1 n2 => hQ dx n1 n2⟩⟩
  refine PySem.wpAt_of_wpAny (wpAny_mono hrun (fun fl s' hs => ?_) fun e s' hs => hs)
  cases fl with
  | ret u =>
    obtain ⟨v, σ', H', J, rv, q⟩ := hs
    exact ⟨v, H', J.os, J.bare, J.base, J.hok, rv, q⟩
  | next =>
    obtain ⟨σ', H', J, q⟩ := hs
    exact ⟨V.non, H', J.os, J.bare, J.base, J.hok, rfl, q⟩
  | brk =>
    obtain ⟨_, _, _, q⟩ := hs
    exact False.elim q
  | cont =>
    obtain ⟨_, _, _, q⟩ := hs
    exact False.elim q
end
end LT

namespace LT
open PySem PySem.Spec PyProof.Rows L2
section
open PySem.W
variable {prog : Program} {w : World} {A : Around} {E : Value → Shared → Prop} {s : Shared} {K : Frag} {x D : Addr} {ox : Obj} {od : Option Obj}
/-- a data descriptor of the class comes first, whatever the instance's own dict has -/
theorem findObj_dataD {C : Addr} {name : Str} {a g : Value} (hc : (clsIn K C).isSome = true) (ha : findIn K (.ref C) name = some (some a)) (hg : specialIn K a "__get__" = some (some g)) (ht : takesIn K a = some true) : findObj K C od name = some (.bind g a) := by
  obtain ⟨cd, hc⟩ := Option.isSome_iff_exists.mp hc
  unfold findObj
  rw [hc, Option.bind_some, ha, Option.bind_some]
  simp [hg, ht]
theorem kin_classD {Q : Option Value → Shared → Prop} (T : ExcC K D) (X : K.In s.heap) (I : InstAt s.heap x ox D od) (h : Q (some (.ref D)) { s with toks := s.toks + 1 }) : wpAny (model prog w) A (getAttr? (.ref x) "__class__") Q E s := by
  have hf : findObj K D od "__class__" = some (.bind (.builtin "getset_descriptor.__get__") (.builtin "object.__class__")) := findObj_dataD (by obtain ⟨cd, hc, _⟩ := any_some T.hd; rw [hc]; rfl) T.ha T.hn T.ht
  obtain ⟨hp, g, d, t, os⟩ := s
  have L0 := I.type (M := model prog w)
  have L1 := looks_findIn (M := model prog w) X T.hg
  have L2 := looks_findIn (M := model prog w) X T.hk
  have L3 := looks_find (M := model prog w) X I hf
  have sub : Looks (model prog w) hp (isInstance (.ref x) (.type "BaseException")) true := L0.andThen (looks_subIn X T.hs)
  have hx0 : (false && onTheHeap (Value.builtin "BaseException.__getattribute__")) = false := rfl
  have hx2 : (Value.builtin "BaseException.__getattribute__" == Value.builtin "object.__getattribute__") = false := by decide +kernel
  have hx1 : (onTheHeap (Value.ref D) && Value.builtin "BaseException.__getattribute__" == Value.builtin "object.__getattribute__") = false := by rw [hx2]; rfl
  unfold getAttr? getAttrBy? getAttrBy
  refine wpAny_bind (wpAny_mkText (wpAny_bind (wpAny_attempt (wpAny_holding (wpAny_bind (L0.at (wpAny_bind (L1.at ?_))))))))
  show wpAny _ _ (if (onTheHeap (Value.ref D) && Value.builtin "BaseException.__getattribute__" == Value.builtin "object.__getattribute__") = true then _ else _) _ _ _
  rw [hx1, if_neg Bool.false_ne_true]
  unfold getAttrByItsOwn hookBefore
  refine wpAny_bind ?_
  rw [if_pos (show onTheHeap (Value.ref D) = true from rfl)]
  refine L2.at ?_
  refine wpAny_bind (wpAny_attempt (wpAny_holding ?_))
  unfold callGetattribute
  rw [hx0, if_neg Bool.false_ne_true]
  unfold boundAndCalled
  rw [PySem.F.excAttr_ValueError.ga.bind (.ref x)]
  refine wpAny_bind (wpAny_pure ?_)
  show wpAny _ _ (call (.builtin "BaseException.__getattribute__") [.ref x, .str "__class__" t]) _ _ _
  refine wpAny_call (codeAny_call_builtin PySem.F.excAttr_ValueError.ga.plain PySem.F.entry_bexc_ga ?_)
  refine @check_slot (model prog w) _ _ ⟨hp, g, d, t + 1, os⟩ "BaseException.__getattribute__" "BaseException" "__getattribute__" (.ref x) [.str "__class__" t] [] _ (by decide +kernel) (by decide +kernel) sub (PySem.F.args_bexc_ga (.ref x) (.str "__class__" t)) ?_
  unfold Builtin.«object.__getattribute__»
  refine wpAny_bind (wpAny_of_eq (a := ((Value.ref x : Value), [Value.str "__class__" t])) (by first | rfl | (simp only [slotArgs]; rfl)) ?_)
  refine wpAny_bind (wpAny_pure (wpAny_bind (L0.at (wpAny_bind (L3.at ?_)))))
  show wpAny _ _ (holding [Value.builtin "object.__class__"] (call (.builtin "getset_descriptor.__get__") [.builtin "object.__class__", .ref x, .ref D]) >>= ret) _ _ _
  refine wpAny_bind (wpAny_holding (wpAny_call (class_get (s := ⟨hp, g, d, t + 1, os⟩) (ox := ox) (od := od) X I T.hm ?_)))
  refine wpAny_pure ?_
  show wpAny _ _ (handedOut (.ref D)) _ _ _
  rw [handedOut_of (v := .ref D) rfl]
  first
    | exact wpAny_pure (wpAny_pure h)
    | exact wpAny_pure h
    | exact wpAny_pure (wpAny_bind (wpAny_pure (wpAny_pure h)))
theorem kitx_excD (T : ExcC K D) : KitX K (.ref x) (.ref D) (fun h => InstAt h x ox D od) where
  ty := fun _ _ _ I => I.type
  it := fun _ _ X _ => by
    obtain ⟨cdD, hcD, _⟩ := any_some T.hd
    unfold clsIn at hcD
    split at hcD
    · rename_i c' d' cd' sl' ho
      intro A' Q' E' s' k q
      unfold isType loadHead
      exact wpAny_bind (wpAny_loadPart (k _ _ (X _ _ ho)) (wpAny_pure q))
    · cases hcD
  ne := fun h tp dd its n sl X htp => by
    obtain ⟨cdD, hcD, _⟩ := any_some T.hd
    refine Bool.eq_false_iff.mpr fun q => ?_
    have e : D = tp := Value.ref.inj (beq_iff_eq.mp q)
    subst e
    unfold clsIn at hcD
    split at hcD
    · rename_i c' d' cd' sl' ho
      have z := (X _ _ ho).symm.trans htp
      cases z
    · cases hcD
  ca := fun X I k => kin_classD T X I k
end
/-- at a an exception of the class C, and its fields, if any -/
def Exc (H : Hp) (a C : Addr) (fs : Option (List (Str × V))) : Prop := (fs = none ∧ H a = some (ExK (.ref C) none a)) ∨ ∃ (d : Addr) (l : List (Str × V)), fs = some l ∧ H a = some (ExK (.ref C) (some d) a) ∧ H d = some (.xd l)
theorem Exc.same {H H' : Hp} {a C : Addr} {fs : Option (List (Str × V))} (h : Exc H a C fs) (s : ∀ b o, H b = some o → H' b = some o) : Exc H' a C fs := by
  rcases h with ⟨e, h⟩ | ⟨d, l, e, h1, h2⟩
  · exact .inl ⟨e, s _ _ h⟩
  · exact .inr ⟨d, l, e, s _ _ h1, s _ _ h2⟩
section
variable {X : Cx} {pins : List (Addr × Obj)} {σ : L2.St} {H : Hp} {s : Shared}
theorem Exc.inst {a C : Addr} {fs : Option (List (Str × V))} (I : Inv X pins σ H s) (h : Exc H a C fs) : ∃ (ob : Obj) (od : Option Obj), PySem.W.InstAt s.heap a ob C od ∧ ∀ l, fs = some l → ∃ (o : Obj) (mA : Str → Option Value), od = some o ∧ (∀ n, PySem.W.lookIn n o = some (mA n)) ∧ ∀ n, RelO (l.lookup n) (mA n) := by
  rcases h with ⟨rfl, h⟩ | ⟨d, l, rfl, h1, h2⟩
  · obtain ⟨⟨ob, fs, hget, hz, hd⟩, _, _⟩ := I.hok a _ h
    obtain ⟨oc, od, oda, osl⟩ := ob
    obtain ⟨z1, z2⟩ := hz
    dsimp only at z1 z2 hd
    subst z1 z2 hd
    exact ⟨_, none, ⟨hget, rfl, rfl, trivial⟩, fun l e => nomatch e⟩
  · obtain ⟨⟨ob, fs, hget, hz, hd⟩, _, _⟩ := I.hok a _ h1
    have hx : ObjOk X.prog X.w H s.heap d (.xd l) := I.hok d _ h2
    obtain ⟨mA, hns, hr⟩ := hx
    obtain ⟨o, ho, hl⟩ := lookIn_ns hns
    obtain ⟨oc, od, oda, osl⟩ := ob
    obtain ⟨z1, z2⟩ := hz
    dsimp only at z1 z2 hd
    subst z1 z2 hd
    refine ⟨_, some o, ⟨hget, rfl, rfl, ho⟩, fun l' e => ?_⟩
    cases e
    exact ⟨o, mA, rfl, hl, hr⟩
end
section
variable {X : Cx}
/-- isinstance(e, c), e an exception that is held -/
def rIsX (K : PySem.W.Frag) : List V → Hp → VK → Prop := fun xs H Q => ∃ (a D : Addr) (fs : Option (List (Str × V))) (c : V) (cv : Value) (b : Bool), xs = [.ref a, c] ∧ Exc H a D fs ∧ ExcC K D ∧ (∀ u, RelV c u → u = cv) ∧ PySem.W.kitOne K (.ref D) cv = some b ∧ Q (.bl b) H
theorem call_isX : CallR X (.builtin "isinstance") (rIsX X.K) := by
  intro pins s σ H xs us Q I r h
  obtain ⟨a, D, fs, c, cv, b, rfl, ha, C, hcv, e, q⟩ := h
  obtain ⟨u1, us1, rfl, r1, r2⟩ : ∃ u us', us = u :: us' ∧ RelV (.ref a) u ∧ Vals [c] us' := by
    cases r with | cons h t => exact ⟨_, _, rfl, h, t⟩
  obtain ⟨u2, rfl, r3⟩ := vals1 r2
  cases r1
  have ec := hcv _ r3
  subst ec
  obtain ⟨ob, od, J, _⟩ := ha.inst I
  refine PySem.W.kia_one (kitx_excD C) I.kIn J e (fun z => nomatch z) ?_
  intro tk
  exact ⟨.bl b, H, I.kept (t' := tk) fun _ _ z => z, rfl, q⟩
/-- e.f, e an exception that is held -/
theorem pe_fldX {e : Expr} {te : TE} {pos : Pos} {n : Str} (he : PE X e te) (hb : attributeBase e n X.env (eval e X.env) = eval e X.env := by rfl) :
    PE X (.Attribute e n pos) (fun σ H Q => te σ H fun x H1 => ∃ (a C : Addr) (l : List (Str × V)) (v : V), x = .ref a ∧ Exc H1 a C (some l) ∧ XfC X.K C ∧ PySem.W.findIn X.K (.ref C) n = some none ∧ l.lookup n = some v ∧ Q v H1) := by
  refine ⟨fun pins s σ H Q I h => ?_⟩
  refine attr_of hb (thn (he.run pins s σ H _ I h) fun u s1 hh => ?_)
  obtain ⟨x, H1, I1, rx, a, C, l, v, rfl, hx, T, hno, hl, q⟩ := hh
  obtain rfl : u = Value.ref a := rx
  obtain ⟨ob, od, J, hf⟩ := hx.inst I1
  obtain ⟨o, mA, rfl, ho, hr⟩ := hf l rfl
  obtain ⟨u, hu, ru⟩ := RelO.some_of (v := v) (o := mA n) (by rw [← hl]; exact hr n)
  exact HandSPX.exc_get I1.kIn J T.ga T.gg T.exC (PySem.W.findObj_own T.hdC hno rfl (by rw [ho, hu])) (handed_of ru) ⟨v, H1, I1.tok _, ru, q⟩
end
/-- what the top says of an own class of errors whose __init__ keeps one field -/
structure SX (P : Program) (w : World) (K : PySem.W.Frag) (mg : Str → Option Value) (base : Heap) (x : Str) (C : Addr) (fld : Str) : Prop where
  g : mg x = some (.ref C)
  ex : OexC K C
  init : ∃ (fI : Addr) (fd : FuncData) (ps : List Str), PySem.W.findIn K (.ref C) "__init__" = some (some (.ref fI)) ∧ PySem.W.typeIn K (.ref fI) = some (.type "function") ∧ FnOk P w K mg base CX0 1 fI fd ps (spInit C fld) ∧ Binds K fd ps []
section
variable {X : Cx} {x fld : Str} {C : Addr} {e : Expr} {ta : TA} {p pos : Pos}
/-- what may be kept in the field: nothing, or a number that is not too great -/
def Held (y : V) : Prop := y = .non ∨ ∃ i : Int, y = .int i ∧ i.natAbs < 10 ^ 66
theorem pa_mono {es : List Expr} (ha : PA X es ta) : PA X es (fun σ H Q => ∃ Q1 : List V → Hp → Prop, ta σ H Q1 ∧ ∀ vs H1, Q1 vs H1 → Q vs H1) :=
  ⟨fun pos pins s σ H Q I ⟨Q1, h, m⟩ => thn (ha.run pos pins s σ H Q1 I h) fun us s' ⟨vs, H1, I1, r, q⟩ => ⟨vs, H1, I1, r, m vs H1 q⟩⟩
/-- raise C(e) -/
theorem pmk_sup (T : SX X.prog X.w X.K X.mg X.base x C fld) (hr : Room 2 X.A) (hg : Gl X x) (ha : PA X [e] ta) (hdb : (x == ("__debug__" : Str)) = false := by decide)
    (he : starEach [e] X.env = (false, eval e X.env) :: starEach [] X.env := by rfl) (hpl : (backTo pos (starEach [] X.env)).any (·.1) = false := by rfl) :
    PMk X (.Call (.Name x p) [e] [] pos) (fun σ H Q => ta σ H fun vs H1 => ∃ y, vs = [y] ∧ Held y ∧ ∀ d, H1 d = none → Q (.ref C) (some d) (upd H1 d (.xd [(fld, y)]))) := by
  obtain ⟨fI, fd, ps, i1, i2, F, B⟩ := T.init
  intro pins s σ H Q I h
  refine pmk_oex T.ex i1 i2 F hr B .nil pass0 hg T.g (pa_mono ha) hdb he hpl pins s σ H Q I ⟨_, h, fun vs H1 hh => ?_⟩
  obtain ⟨y, rfl, hy, hq⟩ := hh
  refine ⟨by simp, fun a na => ⟨a, y, rfl, upd_same, hy, fun dx n1 n2 => ⟨rfl, dx, [(fld, y)], upd_same, ?_, ?_, ?_⟩⟩⟩
  · rw [upd_ne n2, upd_same]
  · rw [upd_ne n2] at n1
    exact n1
  · rw [upd_ne n2] at n1
    have e : upd (del (upd (upd (upd H1 a (exo a C none)) dx (exd dx [(fld, y)])) a (exo a C (some dx))) a) dx (.xd [(fld, y)]) = upd H1 dx (.xd [(fld, y)]) := by
      funext b
      by_cases hb : b = dx
      · rw [hb, upd_same, upd_same]
      · rw [upd_ne hb, upd_ne hb]
        by_cases hc : b = a
        · rw [hc, del_same, na]
        · rw [del_ne hc, upd_ne hc, upd_ne hb, upd_ne hc]
    rw [e]
    exact hq dx n1
/-- C(e), as a value -/
theorem pe_sup (T : SX X.prog X.w X.K X.mg X.base x C fld) (hr : Room 2 X.A) (hg : Gl X x) (ha : PA X [e] ta) (hdb : (x == ("__debug__" : Str)) = false := by decide)
    (he : starEach [e] X.env = (false, eval e X.env) :: starEach [] X.env := by rfl) (hpl : (backTo pos (starEach [] X.env)).any (·.1) = false := by rfl) :
    PE X (.Call (.Name x p) [e] [] pos) (fun σ H Q => ta σ H fun vs H1 => ∃ y, vs = [y] ∧ Held y ∧ ∀ a d, H1 a = none → H1 d = none → d ≠ a → Q (.ref a) (upd (upd H1 d (.xd [(fld, y)])) a (ExK (.ref C) (some d) a))) := by
  refine ⟨fun pins s σ H Q I h => ?_⟩
  refine wpAny_mono (pmk_sup T hr hg (pa_mono ha) hdb he hpl pins s σ H (fun cls d G => ∃ H1 y dd, cls = .ref C ∧ d = some dd ∧ G = upd H1 dd (.xd [(fld, y)]) ∧ H1 dd = none ∧ ∀ a, H1 a = none → dd ≠ a → Q (.ref a) (upd (upd H1 dd (.xd [(fld, y)])) a (ExK (.ref C) (some dd) a))) I ?_) (fun u s' hu => ?_) fun _ _ z => z
  · refine ⟨_, h, fun vs H1 hh => ?_⟩
    obtain ⟨y, rfl, hy, hq⟩ := hh
    exact ⟨y, rfl, hy, fun d n => ⟨H1, y, d, rfl, rfl, rfl, n, fun a na ne => hq a d na n ne⟩⟩
  · obtain ⟨a, oe, vs, sI, G, cls, d, rfl, J, k, n0, ga, hz, hd, h1, na, os, bare, _, H1, y, dd, rfl, rfl, rfl, nd, q⟩ := hu
    have ne : dd ≠ a := fun z => by
      rw [z, upd_same] at na
      cases na
    have J2 := J.laidN (h' := s'.heap) (t' := s'.toks) k n0 na (exK_ok (cls := .ref C) (d := some dd) ga hz hd)
    rw [upd_ne (Ne.symm ne)] at na
    exact ⟨.ref a, _, ⟨J2.ok, os.trans J2.os, bare, J2.base, J2.loc, J2.cell, J2.free, J2.freeC, J2.pin, J2.hok, J2.len⟩, rfl, q a na ne⟩
/-- C(e), C without an __init__ of its own, as a value -/
theorem pe_exV {bmB : List Value} {B newId initId : String} {te : TE} (F : ExcBaseFacts B newId initId bmB) (q : PySem.W.excIn X.K C bmB newId = true) (gC : X.mg x = some (.ref C)) (kC : PySem.W.keepIn X.K (.ref C) = true) (hg : Gl X x)
    (he : PE X e te) (hs : starEach [e] X.env = (false, eval e X.env) :: starEach [] X.env := by rfl) (hdb : (x == ("__debug__" : Str)) = false := by decide) :
    PE X (.Call (.Name x p) [e] [] pos) (fun σ H Q => te σ H fun _ H1 => ∀ a, H1 a = none → Q (.ref a) (upd H1 a (ExK (.ref C) none a))) := by
  refine ⟨fun pins s σ H Q I h => ?_⟩
  refine wpAny_Call_Name_kw (ld_glob I hg gC ?_ hdb)
  refine PySem.W.callWith_K (h₀ := X.base) I.ok.mod.kin kC ?_ hs (by rfl)
  rw [hs]
  show wpAny _ _ (spliced ((false, eval e X.env) :: backTo pos (starEach [] X.env))) _ _ s
  refine Calls.spliced_cons (thn (he.run pins s σ H _ I h) fun u s1 ⟨v, H1, I1, r1, q1⟩ => ?_)
  refine Calls.spliced_nil ⟨I1.kIn, ?_⟩
  show wpAny _ _ (call (.ref C) [u]) _ _ _
  obtain ⟨bm, N, nm, qn, bs, hdct, sn, sub, ab, col, dd, k0, k1, k2, k3, k5, mN, hC, hN, hni, T⟩ := exc_obj I1.kIn q
  refine wpAny_call_exc_subT F T hC hN hni (fun h' a hm => ?_) (by show 1 ≤ sizeLine; rw [sizeLine_eq]; omega)
  have hn : H1 a = none := I1.hok.gone hm.new
  obtain ⟨t, ht, _, _⟩ := hm.there
  exact ⟨.ref a, upd H1 a (ExK (.ref C) none a), I1.laidN hm.keeps hm.new hn (exK_ok ht ⟨rfl, rfl⟩ rfl), rfl, q1 a hn⟩end
end LT

namespace LT
open PySem PySem.Spec PyProof.Rows L2
/-- what the top says of an own class of errors without an __init__ -/
structure XF (K : PySem.W.Frag) (mg : Str → Option Value) (x : Str) (C : Addr) : Prop where
  g : mg x = some (.ref C)
  k : PySem.W.keepIn K (.ref C) = true
  q : PySem.W.excIn K C [.type "ValueError", .type "Exception", .type "BaseException", .type "object"] "ValueError.__new__" = true
  b : PySem.W.subIn K (.ref C) (.type "BaseException") = some true
  t : PySem.W.typeIn K (.ref C) = some (.type "type")
end LT

namespace LT
open PySem PySem.Spec PyProof.Rows L2
section
variable {P : Program} {w : World} {K : PySem.W.Frag} {mg : Str → Option Value} {base : Heap}
def spWhole : Sp := fun vs H Q _ => ∃ i : Int, vs = [.int i] ∧ Q (.bl true) H
theorem ok_is_whole {f : Addr} {fd : FuncData} (F : Fun K "is_whole" "is_whole" sIsWhole f fd) (z_isinstance : mg "isinstance" = none) (z_int : mg "int" = none) (z_bool : mg "bool" = none) : FnOk P w K mg base CX0 1 f fd ["value"] spWhole := by
  refine F.ok scIsWhole (fun vs H Q E h => ?_) (fun cdv A outer s H vs Q E hr h => ?_)
  · obtain ⟨i, rfl, _⟩ := h
    rfl
  obtain ⟨i, rfl, q⟩ := h
  refine ⟨_, (pss_one (ps_ret (pe_and (pe_callB call_isi (by rfl) z_isinstance (by decide +kernel) (pa_cons (pv 0) (pa_cons (pe_bltn (v := .ty "int") (u := .type "int") (by rfl) z_int (by decide +kernel) rfl) pa_nil))) (pe_one (pe_not (pe_callB call_isi (by rfl) z_isinstance (by decide +kernel) (pa_cons (pv 0) (pa_cons (pe_bltn (v := .ty "bool") (u := .type "bool") (by rfl) z_bool (by decide +kernel) rfl) pa_nil)))))))), ?_⟩
  refine ⟨_, rfl, _, _, _, _, true, rfl, .ty "int", .base (.int i), kit_ty (by decide +kernel), true, rfl, ?_⟩
  refine ⟨_, rfl, _, _, _, _, false, rfl, .ty "bool", .base (.int i), kit_ty (by decide +kernel), false, rfl, ?_⟩
  exact q
def spBetween : Sp := fun vs H Q _ => ∃ v lo hi : Int, vs = [.int v, .int lo, .int hi] ∧ Q (.bl (decide (lo ≤ v) && decide (v ≤ hi))) H
theorem ok_is_between {f g : Addr} {fd gd : FuncData} (F : Fun K "is_between" "is_between" sIsBetween f fd) (GIsWhole : FnOk P w K mg base CX0 1 g gd ["value"] spWhole) (AIsWhole : At K mg "is_whole" g gd ["value"]) : FnOk P w K mg base CX0 2 f fd ["value", "low", "high"] spBetween := by
  refine F.ok scIsBetween (fun vs H Q E h => ?_) (fun cdv A outer s H vs Q E hr h => ?_)
  · obtain ⟨i, _, _, rfl, _⟩ := h
    rfl
  obtain ⟨v, lo, hi, rfl, q⟩ := h
  refine ⟨_, (pss_one (ps_ret (pe_and (pe_call GIsWhole (hr.mono (by decide)) rfl AIsWhole.m AIsWhole.kp AIsWhole.b .nil pass0 (pa_cons (pv 0) pa_nil)) (pe_one (pe_chain op_le op_le (pv 1) (pv 0) (pv 2)))))), ?_⟩
  refine ⟨_, rfl, v, rfl, true, rfl, ?_⟩
  refine ⟨_, rfl, _, rfl, _, _, rfl, rfl, _, rfl, ?_⟩
  by_cases h1 : lo ≤ v
  · rw [decide_eq_true h1] at q ⊢
    exact ⟨_, rfl, _, _, rfl, rfl, q⟩
  · rw [decide_eq_false h1] at q ⊢
    exact q
def spCheckSize : Sp := fun vs H Q _ => ∃ n : Int, vs = [.int n] ∧ 1 ≤ n ∧ n ≤ 10 ^ 30 ∧ Q .non H
theorem ok_check_size {f g : Addr} {fd gd : FuncData} {t : Tok} (F : Fun K "check_size" "check_size" sCheckSize f fd) (GIsBetween : FnOk P w K mg base CX0 2 g gd ["value", "low", "high"] spBetween) (AIsBetween : At K mg "is_between" g gd ["value", "low", "high"]) (g_MOST_ENTRIES : mg "MOST_ENTRIES" = some (.int 1000000000000000000000000000000 t)) : FnOk P w K mg base CX0 3 f fd ["size"] spCheckSize := by
  refine F.ok scCheckSize (fun vs H Q E h => ?_) (fun cdv A outer s H vs Q E hr h => ?_)
  · obtain ⟨i, rfl, _⟩ := h
    rfl
  obtain ⟨n, rfl, h1, h2, q⟩ := h
  refine ⟨_, (pss_one (ps_if (pt_not (pt_val (pe_call GIsBetween (hr.mono (by decide)) rfl AIsBetween.m AIsBetween.kp AIsBetween.b .nil pass0 (pa_cons (pv 0) (pa_cons pe_int (pa_cons (pe_glob (v := .int 1000000000000000000000000000000) rfl g_MOST_ENTRIES ⟨_, rfl⟩) pa_nil))))))
    (pss_one ps_never)
    pss_nil)), ?_⟩
  refine ⟨_, rfl, n, 1, 1000000000000000000000000000000, rfl, _, rfl, ?_⟩
  rw [decide_eq_true h1, decide_eq_true (show n ≤ 1000000000000000000000000000000 from h2)]
  exact q
end
end LT

namespace LT
open PySem PySem.Spec PyProof.Rows L2
/-- values of the plain kinds, with their types -/
inductive Pl (K : PySem.W.Frag) (H : Hp) : V → String → Prop
  | non : Pl K H .non "NoneType"
  | bl (b : Bool) : Pl K H (.bl b) "bool"
  | int (i : Int) : Pl K H (.int i) "int"
  | str (s : Str) : Pl K H (.str s) "str"
  | lst {a : Addr} {xs : List V} : H a = some (.lst xs) → Pl K H (.ref a) "list"
  | tup {a : Addr} {xs : List V} : H a = some (.tup xs) → Pl K H (.ref a) "tuple"
  | dict {a : Addr} {kvs : List (Key × V)} : H a = some (.dK kvs) → Pl K H (.ref a) "dict"
theorem Pl.ty {K : PySem.W.Frag} {H : Hp} {v : V} {t : String} (h : Pl K H v t) : TyX K H v (.type t) := by
  cases h with
  | non => exact .base .non
  | bl b => exact .base (.bl b)
  | int i => exact .base (.int i)
  | str s => exact .base (.str s)
  | lst e => exact .base (.lst e)
  | tup e => exact .base (.tup e)
  | dict e => exact .base (.dK e)
def isInt : V → Bool
  | .int _ => true
  | _ => false
def inRange (lo hi : Int) : V → Bool
  | .int i => decide (lo ≤ i) && decide (i ≤ hi)
  | _ => false
section
variable {P : Program} {w : World} {K : PySem.W.Frag} {mg : Str → Option Value} {base : Heap}
def spWholeV (K : PySem.W.Frag) : Sp := fun vs H Q _ => ∃ (v : V) (t : String), vs = [v] ∧ Pl K H v t ∧ Q (.bl (isInt v)) H
theorem ok_is_wholeV {f : Addr} {fd : FuncData} (F : Fun K "is_whole" "is_whole" sIsWhole f fd) (z_isinstance : mg "isinstance" = none) (z_int : mg "int" = none) (z_bool : mg "bool" = none) : FnOk P w K mg base CX0 1 f fd ["value"] (spWholeV K) := by
  refine F.ok scIsWhole (fun vs H Q E h => ?_) (fun cdv A outer s H vs Q E hr h => ?_)
  · obtain ⟨_, _, rfl, _⟩ := h
    rfl
  obtain ⟨v, t, rfl, hv, q⟩ := h
  refine ⟨_, (pss_one (ps_ret (pe_and (pe_callB call_isi (by rfl) z_isinstance (by decide +kernel) (pa_cons (pv 0) (pa_cons (pe_bltn (v := .ty "int") (u := .type "int") (by rfl) z_int (by decide +kernel) rfl) pa_nil))) (pe_one (pe_not (pe_callB call_isi (by rfl) z_isinstance (by decide +kernel) (pa_cons (pv 0) (pa_cons (pe_bltn (v := .ty "bool") (u := .type "bool") (by rfl) z_bool (by decide +kernel) rfl) pa_nil)))))))), ?_⟩
  cases hv with
  | non => exact ⟨_, rfl, _, _, _, _, false, rfl, .ty "int", (Pl.non (K := K) (H := H)).ty, kit_ty (by decide +kernel), false, rfl, q⟩
  | bl b => exact ⟨_, rfl, _, _, _, _, true, rfl, .ty "int", (Pl.bl (K := K) (H := H) b).ty, kit_ty (by decide +kernel), true, rfl, _, rfl, _, _, _, _, true, rfl, .ty "bool", (Pl.bl (K := K) (H := H) b).ty, kit_ty (by decide +kernel), true, rfl, q⟩
  | int i => exact ⟨_, rfl, _, _, _, _, true, rfl, .ty "int", (Pl.int (K := K) (H := H) i).ty, kit_ty (by decide +kernel), true, rfl, _, rfl, _, _, _, _, false, rfl, .ty "bool", (Pl.int (K := K) (H := H) i).ty, kit_ty (by decide +kernel), false, rfl, q⟩
  | str s => exact ⟨_, rfl, _, _, _, _, false, rfl, .ty "int", (Pl.str (K := K) (H := H) s).ty, kit_ty (by decide +kernel), false, rfl, q⟩
  | lst e => exact ⟨_, rfl, _, _, _, _, false, rfl, .ty "int", (Pl.lst (K := K) e).ty, kit_ty (by decide +kernel), false, rfl, q⟩
  | tup e => exact ⟨_, rfl, _, _, _, _, false, rfl, .ty "int", (Pl.tup (K := K) e).ty, kit_ty (by decide +kernel), false, rfl, q⟩
  | dict e => exact ⟨_, rfl, _, _, _, _, false, rfl, .ty "int", (Pl.dict (K := K) e).ty, kit_ty (by decide +kernel), false, rfl, q⟩
def spBetweenV (K : PySem.W.Frag) : Sp := fun vs H Q _ => ∃ (v : V) (t : String) (lo hi : Int), vs = [v, .int lo, .int hi] ∧ Pl K H v t ∧ Q (.bl (inRange lo hi v)) H
theorem ok_is_betweenV {f g : Addr} {fd gd : FuncData} (F : Fun K "is_between" "is_between" sIsBetween f fd) (GIsWhole : FnOk P w K mg base CX0 1 g gd ["value"] (spWholeV K)) (AIsWhole : At K mg "is_whole" g gd ["value"]) : FnOk P w K mg base CX0 2 f fd ["value", "low", "high"] (spBetweenV K) := by
  refine F.ok scIsBetween (fun vs H Q E h => ?_) (fun cdv A outer s H vs Q E hr h => ?_)
  · obtain ⟨_, _, _, _, rfl, _⟩ := h
    rfl
  obtain ⟨v, t, lo, hi, rfl, hv, q⟩ := h
  refine ⟨_, (pss_one (ps_ret (pe_and (pe_call GIsWhole (hr.mono (by decide)) rfl AIsWhole.m AIsWhole.kp AIsWhole.b .nil pass0 (pa_cons (pv 0) pa_nil)) (pe_one (pe_chain op_le op_le (pv 1) (pv 0) (pv 2)))))), ?_⟩
  refine ⟨_, rfl, v, t, rfl, hv, isInt v, rfl, ?_⟩
  cases v with
  | int i =>
    have q' : Q (.bl (decide (lo ≤ i) && decide (i ≤ hi))) H := q
    refine ⟨_, rfl, _, rfl, _, _, rfl, rfl, _, rfl, ?_⟩
    by_cases h1 : lo ≤ i
    · rw [decide_eq_true h1] at q' ⊢
      exact ⟨_, rfl, _, _, rfl, rfl, q'⟩
    · rw [decide_eq_false h1] at q' ⊢
      exact q'
  | non => exact q
  | bl _ => exact q
  | str _ => exact q
  | byt _ => exact q
  | flt _ => exact q
  | ref _ => exact q
  | ty _ => exact q
theorem whole_of {k : Nat} {f : Addr} {fd : FuncData} (F : FnOk P w K mg base CX0 k f fd ["value"] (spWholeV K)) : FnOk P w K mg base CX0 k f fd ["value"] spWhole :=
  F.imp fun vs H Q E h => by
    obtain ⟨i, rfl, q⟩ := h
    exact ⟨_, _, rfl, .int i, q⟩
theorem between_of {k : Nat} {f : Addr} {fd : FuncData} (F : FnOk P w K mg base CX0 k f fd ["value", "low", "high"] (spBetweenV K)) : FnOk P w K mg base CX0 k f fd ["value", "low", "high"] spBetween :=
  F.imp fun vs H Q E h => by
    obtain ⟨v, lo, hi, rfl, q⟩ := h
    exact ⟨_, _, _, _, rfl, .int v, q⟩
end
end LT

namespace LT
open PySem PySem.Spec PyProof.Rows L2
theorem bits_nat (k : Nat) : Builtin.Int.intBits (k : Int) = if k = 0 then 0 else k.log2 + 1 := by
  unfold Builtin.Int.intBits
  by_cases h : k = 0
  · subst h; rfl
  · rw [if_neg h, if_neg (by simpa using h)]
    rfl
theorem bits_lb {m : Nat} (h : 1 ≤ m) : Builtin.Int.intBits ((m - 1 : Nat) : Int) = lb m := by
  rw [bits_nat]
  unfold lb
  by_cases k : m ≤ 1
  · rw [if_pos k, if_pos (by omega)]
  · rw [if_neg k, if_neg (by omega)]
theorem lb100 {m : Nat} (h : m ≤ 10 ^ 30) : lb m ≤ 100 := lb_le (Nat.le_trans h (by decide))
theorem fmod_of_dvd {a b : Nat} (h : a ∣ b) : Int.fmod (b : Int) (a : Int) = 0 := by
  rw [Int.fmod_eq_emod_of_nonneg _ (Int.natCast_nonneg _)]
  exact Int.emod_eq_zero_of_dvd (Int.natCast_dvd_natCast.mpr h)
end LT

namespace LT
/-- the nodes from (b, b + m) down, as the law lists them -/
def nodesF : Nat → Nat → Nat → List (Nat × Nat)
  | 0, _, _ => []
  | i + 1, b, m => if m ≤ 1 then [(b, b + m)] else (b, b + m) :: (nodesF i b (gp m) ++ nodesF i (b + gp m) (m - gp m))
theorem nodesF_one {i b m : Nat} (h : m ≤ 1) : nodesF (i + 1) b m = [(b, b + m)] := if_pos h
theorem nodesF_two {i b m : Nat} (h : ¬ m ≤ 1) : nodesF (i + 1) b m = (b, b + m) :: (nodesF i b (gp m) ++ nodesF i (b + gp m) (m - gp m)) := if_neg h
theorem gp_half {i m : Nat} (h : 2 ≤ m) (k : 2 * m ≤ 2 ^ (i + 1)) : 2 * gp m ≤ 2 ^ i ∧ 2 * (m - gp m) ≤ 2 ^ i := by
  have g1 := gp_lt h
  have g2 := gp_ge h
  have p := Nat.pow_succ (n := 2) (m := i)
  have : gp m < 2 ^ i := by omega
  unfold gp at this ⊢
  have e := (Nat.pow_lt_pow_iff_right (by decide : 1 < 2)).mp this
  have e2 : 2 ^ ((m - 1).log2 + 1) ≤ 2 ^ i := Nat.pow_le_pow_right (by decide) (by omega)
  rw [Nat.pow_succ] at e2
  unfold gp at g1 g2
  omega
theorem nodesF_len : ∀ (i b m : Nat), 1 ≤ m → 2 * m ≤ 2 ^ i → (nodesF i b m).length = 2 * m - 1
  | 0, b, m, h1, h2 => by simp at h2; omega
  | i + 1, b, m, h1, h2 => by
    by_cases c : m ≤ 1
    · rw [nodesF_one c]
      simp
      omega
    · rw [nodesF_two c, List.length_cons, List.length_append]
      have g1 := gp_lt (m := m) (by omega)
      have g3 := gp_pos m
      obtain ⟨k1, k2⟩ := gp_half (by omega) h2
      rw [nodesF_len i b (gp m) g3 k1, nodesF_len i (b + gp m) (m - gp m) (by omega) k2]
      omega
/-- a node of tree(n) -/
def isN (n : Nat) (x : Nat × Nat) : Prop := x.1 < x.2 ∧ x.2 ≤ n ∧ tree n x.1 (x.2 - x.1)
theorem mul_le_of_lt {R a b : Nat} (h1 : R ∣ a) (h2 : R ∣ b) (h : a < b) : a + R ≤ b := by
  obtain ⟨x, rfl⟩ := h1
  obtain ⟨y, rfl⟩ := h2
  have : x < y := Nat.lt_of_mul_lt_mul_left h
  calc R * x + R = R * (x + 1) := by rw [Nat.mul_succ]
    _ ≤ R * y := Nat.mul_le_mul_left R this
/-- a node within another one is it, or lies within one of its halves -/
theorem node_in {n b m : Nat} (h : 2 ≤ m) (t : tree n b m) (hn : b + m ≤ n) {x : Nat × Nat} (hx : isN n x) (h1 : b ≤ x.1) (h2 : x.2 ≤ b + m) : x = (b, b + m) ∨ x.2 ≤ b + gp m ∨ b + gp m ≤ x.1 := by
  obtain ⟨x1, x2⟩ := x
  obtain ⟨k1, k2, d, k3⟩ := hx
  simp only at k1 k2 d k3 h1 h2
  by_cases c1 : x2 ≤ b + gp m
  · exact .inr (.inl c1)
  by_cases c2 : b + gp m ≤ x1
  · exact .inr (.inr c2)
  left
  obtain ⟨td, tk⟩ := t
  have e := lb_gp h
  rw [e] at td tk
  have g1 := gp_lt h
  have g2 := gp_ge h
  have gR : gp m = 2 ^ Nat.log2 (m - 1) := rfl
  generalize hr : lb (x2 - x1) = r at d k3
  have ge := lb_ge (x2 - x1)
  rw [hr] at ge
  by_cases c : r ≤ Nat.log2 (m - 1)
  · -- small: a multiple of 2 ^ r below b + gp m ends there at most
    have dg : 2 ^ r ∣ gp m := by rw [gR]; exact Nat.pow_dvd_pow 2 c
    have db : 2 ^ r ∣ b := Nat.dvd_trans dg (Nat.dvd_trans (Nat.dvd_mul_left _ _) td)
    have := mul_le_of_lt d (Nat.dvd_add db dg) (by omega : x1 < b + gp m)
    omega
  · have dd : 2 * gp m ∣ 2 ^ r := by
      rw [gR, Nat.mul_comm, ← Nat.pow_succ]
      exact Nat.pow_dvd_pow 2 (by omega)
    have dx := Nat.dvd_trans dd d
    have ex : x1 = b := by
      by_cases z : b < x1
      · have := mul_le_of_lt td dx z
        omega
      · omega
    subst ex
    have le : 2 * gp m ≤ 2 ^ r := Nat.le_of_dvd (Nat.pow_pos (by decide)) dd
    have rl : r ≤ Nat.log2 (m - 1) + 1 := by
      rw [← hr]
      refine lb_le ?_
      rw [Nat.pow_succ, ← gR]
      omega
    have e2 : 2 ^ r ≤ 2 * gp m := by
      rw [gR, Nat.mul_comm, ← Nat.pow_succ]
      exact Nat.pow_le_pow_right (by decide) rl
    have : x2 = x1 + m := by
      rcases k3 with k3 | k3 <;> omega
    rw [this]
theorem mem_nodesF (n : Nat) (x : Nat × Nat) : ∀ (i b m : Nat), 1 ≤ m → 2 * m ≤ 2 ^ i → tree n b m → b + m ≤ n → (x ∈ nodesF i b m ↔ isN n x ∧ b ≤ x.1 ∧ x.2 ≤ b + m)
  | 0, b, m, h1, h2, _, _ => by simp at h2; omega
  | i + 1, b, m, h1, h2, t, hn => by
    by_cases c : m ≤ 1
    · have em : m = 1 := by omega
      subst em
      rw [nodesF_one (by omega), List.mem_singleton]
      constructor
      · rintro rfl
        exact ⟨⟨by simp, by simpa using hn, by simpa using t⟩, by simp, by simp⟩
      · rintro ⟨⟨k1, _⟩, k2, k3⟩
        have : x.1 = b ∧ x.2 = b + 1 := by omega
        exact Prod.ext this.1 this.2
    · rw [nodesF_two c, List.mem_cons, List.mem_append]
      have g1 := gp_lt (m := m) (by omega)
      have g3 := gp_pos m
      obtain ⟨k1, k2⟩ := gp_half (by omega) h2
      have e : b + gp m + (m - gp m) = b + m := by omega
      have il := mem_nodesF n x i b (gp m) g3 k1 (tree_low (by omega) t) (by omega)
      have ih := mem_nodesF n x i (b + gp m) (m - gp m) (by omega) k2 (tree_high (by omega) t) (by omega)
      rw [il, ih, e]
      constructor
      · rintro (rfl | ⟨p, q, r⟩ | ⟨p, q, r⟩)
        · exact ⟨⟨by simp; omega, by simpa using hn, by simpa using t⟩, by simp, by simp⟩
        · exact ⟨p, q, by omega⟩
        · exact ⟨p, by omega, r⟩
      · rintro ⟨p, q, r⟩
        rcases node_in (by omega) t hn p q r with z | z | z
        · exact .inl z
        · exact .inr (.inl ⟨p, q, z⟩)
        · exact .inr (.inr ⟨p, z, r⟩)
instance (n : Nat) (x : Nat × Nat) : Decidable (tree n x.1 (x.2 - x.1)) := by unfold tree; infer_instance
instance (n : Nat) (x : Nat × Nat) : Decidable (isN n x) := by unfold isN; infer_instance
end LT

namespace LT
open PySem PySem.Spec PyProof.Rows L2
def tnV (n : Nat) : V → V → Bool
  | .int b, .int e => decide (0 ≤ b ∧ isN n (b.toNat, e.toNat))
  | _, _ => false
theorem tn_out {n : Nat} {b e : Int} (h : ¬ (0 ≤ b ∧ b < e ∧ e ≤ n)) : tnV n (.int b) (.int e) = false := by
  refine decide_eq_false (fun ⟨h0, k⟩ => h ⟨h0, ?_, ?_⟩)
  · have := k.1
    simp only at this
    omega
  · have := k.1
    have := k.2.1
    simp only at *
    omega
/-- what may be asked whether it is a node -/
inductive Ask (K : PySem.W.Frag) (H : Hp) (n : Nat) : V → Bool → Prop
  | kind {v : V} {t : String} : Pl K H v t → t ≠ "tuple" → Ask K H n v false
  | long {p : Addr} {xs : List V} : H p = some (.tup xs) → xs.length ≠ 2 → xs.length ≤ 1000 → Ask K H n (.ref p) false
  | pair {p : Addr} {v1 v2 : V} {t1 t2 : String} : H p = some (.tup [v1, v2]) → Pl K H v1 t1 → Pl K H v2 t2 → Ask K H n (.ref p) (tnV n v1 v2)
theorem kit_tup {t : String} {K : PySem.W.Frag} {H : Hp} {v : V} (h : Pl K H v t) (hn : t ≠ "tuple") : PySem.W.kitOne K (.type t) (.type "tuple") = some false := by
  cases h with
  | non => exact kit_ty (by decide +kernel)
  | bl _ => exact kit_ty (by decide +kernel)
  | int _ => exact kit_ty (by decide +kernel)
  | str _ => exact kit_ty (by decide +kernel)
  | lst _ => exact kit_ty (by decide +kernel)
  | tup _ => exact absurd rfl hn
  | dict _ => exact kit_ty (by decide +kernel)
section
variable {P : Program} {w : World} {K : PySem.W.Frag} {mg : Str → Option Value} {base : Heap}
def spTreeV (K : PySem.W.Frag) : Sp := fun vs H Q _ => ∃ (n : Nat) (v : V) (r : Bool), vs = [.int n, v] ∧ 1 ≤ n ∧ n ≤ 2 ^ 100 ∧ Ask K H n v r ∧ Q (.bl r) H
theorem ok_is_tree_nodeV {f g : Addr} {fd gd : FuncData} (F : Fun K "is_tree_node" "is_tree_node" sIsTreeNode f fd) (GIsBetween : FnOk P w K mg base CX0 2 g gd ["value", "low", "high"] (spBetweenV K)) (AIsBetween : At K mg "is_between" g gd ["value", "low", "high"])
    (z_isinstance : mg "isinstance" = none) (z_tuple : mg "tuple" = none) (z_len : mg "len" = none) : FnOk P w K mg base CX0 3 f fd ["size", "value"] (spTreeV K) := by
  refine F.ok scIsTreeNode (fun vs H Q E h => ?_) (fun cdv A outer s H vs Q E hr h => ?_)
  · obtain ⟨_, _, _, rfl, _⟩ := h
    rfl
  obtain ⟨n, v, r, rfl, n1, h30, ask, q⟩ := h
  refine ⟨_, (pss_cons (ps_if (PW.pt (pw_or (pt_not (pt_val (pe_callB call_isi (by rfl) z_isinstance (by decide +kernel) (pa_cons (pv 1) (pa_cons (pe_bltn (v := .ty "tuple") (u := .type "tuple") (by rfl) z_tuple (by decide +kernel) rfl) pa_nil))))) (pw_or1 (pt_cmpR op_ne (pe_callB call_len_seq (by rfl) z_len PySem.boot_len (pa_cons (pv 1) pa_nil)) pe_int (nomark _)))))
    (pss_one (ps_ret pe_bl))
    pss_nil)
    (pss_cons (ps_asg (pv 1) (pg_tup (by rfl) (pgs_cons (pg_name (i := 2) scIsTreeNode.nd rfl (Or.inl rfl)) (pgs_cons (pg_name (i := 3) scIsTreeNode.nd rfl (Or.inl rfl)) pgs_nil))))
    (pss_cons (ps_if (PW.pt (pw_or (pt_not (pt_val (pe_call GIsBetween (hr.mono (by decide)) rfl AIsBetween.m AIsBetween.kp AIsBetween.b .nil pass0 (pa_cons (pv 2) (pa_cons pe_int (pa_cons (pe_op op_sub (pv 0) pe_int) pa_nil)))))) (pw_or1 (pt_not (pt_val (pe_call GIsBetween (hr.mono (by decide)) rfl AIsBetween.m AIsBetween.kp AIsBetween.b .nil pass0 (pa_cons (pv 3) (pa_cons (pe_op op_add (pv 2) pe_int) (pa_cons (pv 0) pa_nil)))))))))
    (pss_one (ps_ret pe_bl))
    pss_nil)
    (pss_cons (ps_set (i := 4) scIsTreeNode.nd rfl (Or.inl rfl) (pe_op op_shl pe_int (pe_bits (pe_op op_sub (pe_op op_sub (pv 3) (pv 2)) pe_int))))
    (pss_one (ps_ret (pe_and (pe_cmpR op_eq (pe_op op_modN (pv 2) (pv 4)) pe_int (nomark _)) (pe_one (pe_or (pe_cmpR op_eq (pe_op op_sub (pv 3) (pv 2)) (pv 4) (nomark _)) (pe_one (pe_cmpR op_eq (pv 3) (pv 0) (nomark _)))))))))))), ?_⟩
  cases ask with
  | @kind _ t hv ht => exact ⟨_, rfl, _, _, _, _, false, rfl, .ty "tuple", hv.ty, kit_tup hv ht, false, rfl, q⟩
  | @long p xs hp hl h1000 =>
    refine ⟨_, rfl, _, _, _, _, true, rfl, .ty "tuple", .base (.tup hp), kit_ty (by decide +kernel), true, rfl, ?_⟩
    refine ⟨_, rfl, p, _, rfl, .inr (SqT.of hp), rfl, true, ?_, q⟩
    refine congrArg V.bl ?_
    rw [Bool.not_eq_true']
    exact decide_eq_false (fun z => hl (by have := V.int.inj z; omega))
  | @pair p v1 v2 ty1 ty2 hp p1 p2 =>
    refine ⟨_, rfl, _, _, _, _, true, rfl, .ty "tuple", .base (.tup hp), kit_ty (by decide +kernel), true, rfl, ?_⟩
    refine ⟨_, rfl, p, _, rfl, .inr (SqT.of hp), rfl, false, rfl, ?_⟩
    refine ⟨_, rfl, p, _, rfl, SqT.of hp, rfl, _, _, rfl, _, _, rfl, rfl, ?_⟩
    refine ⟨_, rfl, _, rfl, _, _, rfl, rfl, v1, ty1, _, _, rfl, p1, inRange 0 ((n : Int) - 1) v1, rfl, ?_⟩
    cases h1 : inRange 0 ((n : Int) - 1) v1 with
    | false =>
      have e : tnV n v1 v2 = false := by
        cases v1 with
        | int b =>
          cases v2 with
          | int e =>
            refine tn_out (fun k => ?_)
            have h1' : (decide (0 ≤ b) && decide (b ≤ (n : Int) - 1)) = false := h1
            rw [decide_eq_true k.1, decide_eq_true (show b ≤ (n : Int) - 1 by omega)] at h1'
            exact absurd h1' (by decide)
          | _ => rfl
        | _ => rfl
      rw [e] at q
      exact q
    | true =>
      cases p1 with
      | int b =>
        have h1' : (decide (0 ≤ b) && decide (b ≤ (n : Int) - 1)) = true := h1
        rw [Bool.and_eq_true] at h1'
        have b0 := of_decide_eq_true h1'.1
        have b1 := of_decide_eq_true h1'.2
        refine ⟨_, rfl, _, rfl, _, _, rfl, rfl, _, rfl, v2, ty2, _, _, rfl, p2, inRange (b + 1) (n : Int) v2, rfl, ?_⟩
        cases h2 : inRange (b + 1) (n : Int) v2 with
        | false =>
          have e : tnV n (.int b) v2 = false := by
            cases v2 with
            | int e =>
              refine tn_out (fun k => ?_)
              have h2' : (decide (b + 1 ≤ e) && decide (e ≤ (n : Int))) = false := h2
              rw [decide_eq_true (show b + 1 ≤ e by omega), decide_eq_true k.2.2] at h2'
              exact absurd h2' (by decide)
            | _ => rfl
          rw [e] at q
          exact q
        | true =>
          cases p2 with
          | int e =>
            have h2' : (decide (b + 1 ≤ e) && decide (e ≤ (n : Int))) = true := h2
            rw [Bool.and_eq_true] at h2'
            have e0 := of_decide_eq_true h2'.1
            have e1 := of_decide_eq_true h2'.2
            obtain ⟨bn, rfl⟩ := Int.eq_ofNat_of_zero_le b0
            obtain ⟨en, rfl⟩ := Int.eq_ofNat_of_zero_le (show 0 ≤ e by omega)
            have hlt : bn < en := by omega
            have ev : tnV n (.int (bn : Int)) (.int (en : Int)) = decide (isN n (bn, en)) := by
              show decide (0 ≤ (bn : Int) ∧ isN n ((bn : Int).toNat, (en : Int).toNat)) = decide (isN n (bn, en))
              rw [Int.toNat_natCast, Int.toNat_natCast]
              by_cases k : isN n (bn, en)
              · rw [decide_eq_true k, decide_eq_true ⟨b0, k⟩]
              · rw [decide_eq_false k, decide_eq_false (fun z => k z.2)]
            rw [ev] at q
            have em : (en : Int) - (bn : Int) - 1 = ((en - bn - 1 : Nat) : Int) := by omega
            refine ⟨_, rfl, _, rfl, _, _, rfl, rfl, _, _, rfl, rfl, _, rfl, ?_⟩
            dsimp only
            rw [em, bits_lb (show 1 ≤ en - bn by omega)]
            have l100 := lb_le (show en - bn ≤ 2 ^ 100 by omega)
            refine ⟨_, _, rfl, rfl, ⟨Int.natCast_nonneg _, by omega, by decide⟩, ?_⟩
            have e2 : (1 : Int) * 2 ^ ((lb (en - bn) : Nat) : Int).toNat = ((2 ^ lb (en - bn) : Nat) : Int) := by rw [Int.one_mul, Int.toNat_natCast]; exact (Int.natCast_pow 2 _).symm
            dsimp only
            rw [e2]
            have pz : 0 < 2 ^ lb (en - bn) := Nat.pow_pos (by decide)
            have isE : isN n (bn, en) ↔ (bn % 2 ^ lb (en - bn) = 0 ∧ (en - bn = 2 ^ lb (en - bn) ∨ en = n)) := by
              unfold isN tree
              simp only
              constructor
              · rintro ⟨_, _, k1, k2⟩
                exact ⟨Nat.mod_eq_zero_of_dvd k1, k2.elim .inl (fun z => .inr (by omega))⟩
              · rintro ⟨k1, k2⟩
                exact ⟨hlt, by omega, Nat.dvd_of_mod_eq_zero k1, k2.elim .inl (fun z => .inr (by omega))⟩
            generalize 2 ^ lb (en - bn) = R at pz isE
            have fm : Int.fmod (bn : Int) (R : Int) = ((bn % R : Nat) : Int) := by
              rw [Int.fmod_eq_emod_of_nonneg _ (Int.natCast_nonneg _)]
              exact (Int.natCast_emod _ _).symm
            refine ⟨_, rfl, _, rfl, _, _, rfl, rfl, by omega, rfl, decide (bn % R = 0), ?_, ?_⟩
            · show V.bl (decide (V.int (Int.fmod (bn : Int) (R : Int)) = V.int 0)) = V.bl (decide (bn % R = 0))
              rw [fm]
              refine congrArg V.bl ?_
              by_cases k : bn % R = 0
              · rw [decide_eq_true k, k]; rfl
              · rw [decide_eq_false k]
                exact decide_eq_false (fun z => k (by have := V.int.inj z; omega))
            by_cases k : bn % R = 0
            · rw [decide_eq_true k]
              refine iteT ?_
              refine ⟨_, rfl, _, rfl, _, _, rfl, rfl, _, rfl, rfl, _, rfl, ite2 (fun c => ?_) (fun c => ?_)⟩
              · have c1 : V.int ((en : Int) - (bn : Int)) = V.int (R : Int) := of_decide_eq_true c
                have c2 := V.int.inj c1
                rw [decide_eq_true (isE.mpr ⟨k, .inl (by omega)⟩)] at q
                exact q
              · have c1 : ¬ V.int ((en : Int) - (bn : Int)) = V.int (R : Int) := of_decide_eq_false (Bool.eq_false_iff.mpr c)
                refine ⟨_, rfl, _, rfl, rfl, ?_⟩
                have ed : decide (V.int (en : Int) = V.int (n : Int)) = decide (isN n (bn, en)) := by
                  by_cases z : en = n
                  · rw [decide_eq_true (isE.mpr ⟨k, .inr z⟩), decide_eq_true (by rw [z])]
                  · rw [decide_eq_false (fun y => z (by have := V.int.inj y; omega)), decide_eq_false (fun y => (isE.mp y).2.elim (fun u => c1 (congrArg V.int (by omega))) z)]
                show Q (.bl (decide (V.int (en : Int) = V.int (n : Int)))) H
                rw [ed]
                exact q
            · rw [decide_eq_false k]
              refine iteF ?_
              rw [decide_eq_false (fun z => k (isE.mp z).1)] at q
              exact q
          | _ => exact absurd h2 (by intro z; cases z)
      | _ => exact absurd h1 (by intro z; cases z)
end
end LT

namespace LT
/-! ### the greatest nodes within a stretch -/
theorem and_pred_odd (c : Nat) : (2 * c + 1) &&& (2 * c) = 2 * c := by
  apply Nat.eq_of_testBit_eq
  intro i
  rw [Nat.testBit_and]
  cases i with
  | zero => simp
  | succ i =>
    rw [Nat.testBit_succ, Nat.testBit_succ, show (2 * c + 1) / 2 = c by omega, show 2 * c / 2 = c by omega, Bool.and_self]
theorem and_pred_even (c : Nat) (h : 0 < c) : (2 * c) &&& (2 * c - 1) = 2 * (c &&& (c - 1)) := by
  apply Nat.eq_of_testBit_eq
  intro i
  rw [Nat.testBit_and]
  cases i with
  | zero => simp
  | succ i =>
    rw [Nat.testBit_succ, Nat.testBit_succ, Nat.testBit_succ, show 2 * c / 2 = c by omega, show (2 * c - 1) / 2 = c - 1 by omega, show 2 * (c &&& (c - 1)) / 2 = c &&& (c - 1) by omega, Nat.testBit_and]
def low (b : Nat) : Nat := b - (b &&& (b - 1))
theorem low_is : ∀ b : Nat, 0 < b → ∃ k, low b = 2 ^ k ∧ 2 ^ k ∣ b ∧ ¬ 2 ^ (k + 1) ∣ b := by
  intro b
  induction b using Nat.strongRecOn with
  | ind b ih =>
    intro hb
    rcases Nat.mod_two_eq_zero_or_one b with h | h
    · obtain ⟨c, rfl⟩ : ∃ c, b = 2 * c := ⟨b / 2, by omega⟩
      obtain ⟨k, e, d1, d2⟩ := ih c (by omega) (by omega)
      refine ⟨k + 1, ?_, ?_, ?_⟩
      · unfold low at e ⊢
        rw [and_pred_even c (by omega), Nat.pow_succ]
        omega
      · rw [Nat.pow_succ, Nat.mul_comm]
        exact Nat.mul_dvd_mul_left 2 d1
      · rw [Nat.pow_succ, Nat.mul_comm (2 ^ (k + 1)) 2]
        exact fun z => d2 (Nat.dvd_of_mul_dvd_mul_left (by decide) z)
    · obtain ⟨c, rfl⟩ : ∃ c, b = 2 * c + 1 := ⟨b / 2, by omega⟩
      refine ⟨0, ?_, Nat.one_dvd _, ?_⟩
      · unfold low
        rw [show 2 * c + 1 - 1 = 2 * c by omega, and_pred_odd]
        omega
      · intro z
        have := Nat.mod_eq_zero_of_dvd z
        omega
/-- the room of the greatest full node that begins at b, up to e -/
def rm (b e : Nat) : Nat := if b = 0 then 2 ^ (e - b).log2 else min (2 ^ (e - b).log2) (low b)
theorem rm_is {b e : Nat} (h : b < e) : ∃ k, rm b e = 2 ^ k ∧ 2 ^ k ∣ b ∧ b + 2 ^ k ≤ e ∧ (2 ^ (k + 1) ∣ b → e < b + 2 ^ (k + 1)) := by
  have l1 := Nat.log2_self_le (n := e - b) (by omega)
  have l2 := Nat.lt_log2_self (n := e - b)
  unfold rm
  by_cases c : b = 0
  · subst c
    rw [if_pos rfl]
    exact ⟨_, rfl, Nat.dvd_zero _, by omega, fun _ => by omega⟩
  · rw [if_neg c]
    obtain ⟨k, e1, d1, d2⟩ := low_is b (by omega)
    rw [e1]
    by_cases c2 : (e - b).log2 ≤ k
    · have := Nat.pow_le_pow_right (n := 2) (by decide) c2
      rw [Nat.min_eq_left this]
      exact ⟨_, rfl, Nat.dvd_trans (Nat.pow_dvd_pow 2 c2) d1, by omega, fun _ => by omega⟩
    · have := Nat.pow_le_pow_right (n := 2) (by decide) (show k ≤ (e - b).log2 by omega)
      rw [Nat.min_eq_right this]
      exact ⟨k, rfl, d1, by omega, fun z => absurd z d2⟩
def rw1 (n b e : Nat) : Nat := if isN n (b, e) then e - b else rm b e
def nwF (n : Nat) : Nat → Nat → Nat → List (Nat × Nat)
  | 0, _, _ => []
  | f + 1, b, e => if b < e then (b, b + rw1 n b e) :: nwF n f (b + rw1 n b e) e else []
def nw (n b e : Nat) : List (Nat × Nat) := nwF n (e - b) b e
theorem rw1_pos {n b e : Nat} (h : b < e) : 0 < rw1 n b e ∧ b + rw1 n b e ≤ e := by
  unfold rw1
  split
  · omega
  · obtain ⟨k, e1, _, e2, _⟩ := rm_is h
    have := Nat.pow_pos (a := 2) (n := k) (by decide)
    omega
theorem nwF_eq (n e : Nat) : ∀ (f g b : Nat), e - b ≤ f → e - b ≤ g → nwF n f b e = nwF n g b e
  | 0, 0, _, _, _ => rfl
  | 0, g + 1, b, h, _ => by
    show [] = if b < e then _ else _
    rw [if_neg (by omega)]
  | f + 1, 0, b, _, h => by
    show (if b < e then _ else _) = []
    rw [if_neg (by omega)]
  | f + 1, g + 1, b, h1, h2 => by
    show (if b < e then _ else _) = if b < e then _ else _
    by_cases c : b < e
    · have := rw1_pos (n := n) c
      rw [if_pos c, if_pos c, nwF_eq n e f g (b + rw1 n b e) (by omega) (by omega)]
    · rw [if_neg c, if_neg c]
theorem nw_nil {n b e : Nat} (h : e ≤ b) : nw n b e = [] := by
  unfold nw
  rw [show e - b = 0 by omega]
  rfl
theorem nw_step {n b e : Nat} (h : b < e) : nw n b e = (b, b + rw1 n b e) :: nw n (b + rw1 n b e) e := by
  have p := rw1_pos (n := n) h
  unfold nw
  rw [show e - b = (e - b - 1) + 1 by omega]
  show (if b < e then _ else _) = _
  rw [if_pos h, nwF_eq n e (e - b - 1) (e - (b + rw1 n b e)) (b + rw1 n b e) (by omega) (by omega)]
/-- induction over the nodes within -/
theorem nw_ind {n e : Nat} {p : Nat → Prop} (h0 : ∀ b, e ≤ b → p b) (h1 : ∀ b, b < e → p (b + rw1 n b e) → p b) (b : Nat) : p b := by
  have : ∀ (f b : Nat), e - b ≤ f → p b := by
    intro f
    induction f with
    | zero => exact fun b h => h0 b (by omega)
    | succ f ih =>
      intro b h
      by_cases c : b < e
      · have := rw1_pos (n := n) c
        exact h1 b c (ih _ (by omega))
      · exact h0 b (by omega)
  exact this _ b (Nat.le_refl _)
theorem nw_len2 {n e : Nat} : ∀ (L b : Nat), 2 ^ L ∣ b → e < b + 2 ^ L → (nw n b e).length ≤ L
  | 0, b, _, h => by rw [nw_nil (by simp at h; omega)]; exact Nat.zero_le _
  | L + 1, b, d, h => by
    have d' : 2 ^ L ∣ b := Nat.dvd_trans (Nat.pow_dvd_pow 2 (Nat.le_succ L)) d
    by_cases c : b < e
    · by_cases c2 : e < b + 2 ^ L
      · have := nw_len2 (n := n) (e := e) L b d' c2
        omega
      · rw [nw_step c, List.length_cons]
        unfold rw1
        split
        · rw [nw_nil (by omega)]
          simp
        · obtain ⟨k, e1, e2, e3, e4⟩ := rm_is c
          rw [e1]
          have kL : k = L := by
            by_cases z : k < L
            · have := e4 (Nat.dvd_trans (Nat.pow_dvd_pow 2 z) d')
              have := Nat.pow_le_pow_right (n := 2) (by decide) (show k + 1 ≤ L from z)
              omega
            · have : 2 ^ k < 2 ^ (L + 1) := by omega
              have := (Nat.pow_lt_pow_iff_right (by decide : 1 < 2)).mp this
              omega
          subst kL
          have := nw_len2 (n := n) (e := e) k (b + 2 ^ k) (Nat.dvd_add e2 (Nat.dvd_refl _)) (by rw [Nat.pow_succ] at h; omega)
          omega
    · rw [nw_nil (by omega)]
      exact Nat.zero_le _
theorem nw_len1 {n e L : Nat} : ∀ (t j b : Nat), j + t = L → 2 ^ j ∣ b → e < b + 2 ^ L → (nw n b e).length ≤ L + t
  | 0, j, b, hj, d, h => by
    have : j = L := by omega
    subst this
    exact nw_len2 j b d h
  | t + 1, j, b, hj, d, h => by
    by_cases c : b < e
    · by_cases d1 : 2 ^ (j + 1) ∣ b
      · have := nw_len1 (n := n) (e := e) (L := L) t (j + 1) b (by omega) d1 h
        omega
      · rw [nw_step c, List.length_cons]
        unfold rw1
        split
        · rw [nw_nil (by omega)]
          simp
          omega
        · obtain ⟨k, e1, e2, e3, e4⟩ := rm_is c
          rw [e1]
          by_cases z : k < j
          · have e5 := e4 (Nat.dvd_trans (Nat.pow_dvd_pow 2 z) d)
            have := nw_len2 (n := n) (e := e) k (b + 2 ^ k) (Nat.dvd_add e2 (Nat.dvd_refl _)) (by rw [Nat.pow_succ] at e5; omega)
            omega
          · have kj : k = j := by
              by_cases y : j < k
              · exact absurd (Nat.dvd_trans (Nat.pow_dvd_pow 2 y) e2) d1
              · omega
            subst kj
            have d2 : 2 ^ (k + 1) ∣ b + 2 ^ k := by
              obtain ⟨x, rfl⟩ := d
              rcases Nat.mod_two_eq_zero_or_one x with y | y
              · exact absurd (by rw [Nat.pow_succ]; exact Nat.mul_dvd_mul_left _ (Nat.dvd_of_mod_eq_zero y)) d1
              · refine ⟨x / 2 + 1, ?_⟩
                have : x = 2 * (x / 2) + 1 := by omega
                rw [Nat.pow_succ]
                generalize x / 2 = u at this
                subst this
                rw [Nat.mul_add, Nat.mul_add, Nat.mul_assoc (2 ^ k) 2 u]
                omega
            have p := Nat.pow_pos (a := 2) (n := k) (by decide)
            have := nw_len1 (n := n) (e := e) (L := L) t (k + 1) (b + 2 ^ k) (by omega) d2 (by omega)
            omega
    · rw [nw_nil (by omega)]
      exact Nat.zero_le _
theorem nw_len {n b e : Nat} (h : e ≤ 2 ^ 100) : (nw n b e).length ≤ 202 := by
  have := nw_len1 (n := n) (e := e) (L := 101) 101 0 b (by decide) (by simp) (by rw [Nat.pow_succ]; omega)
  omega
/-- nodes are nested or apart -/
theorem lam {n b m B M : Nat} (t : tree n b m) (hm : 1 ≤ m) (T : tree n B M) (hn : b + m ≤ n) (HN : B + M ≤ n) (h1 : b < B) (h2 : B < b + m) : B + M ≤ b + m := by
  obtain ⟨d, k⟩ := t
  obtain ⟨D, _⟩ := T
  have ge := lb_ge m
  have gE := lb_ge M
  by_cases c : lb m ≤ lb M
  · have := mul_le_of_lt d (Nat.dvd_trans (Nat.pow_dvd_pow 2 c) D) h1
    omega
  · have c1 : lb M ≤ lb m := by omega
    have := mul_le_of_lt D (Nat.dvd_add (Nat.dvd_trans (Nat.pow_dvd_pow 2 c1) d) (Nat.pow_dvd_pow 2 c1)) (show B < b + 2 ^ lb m by omega)
    rcases k with k | k
    · omega
    · omega
theorem isN_tree {n b e : Nat} (h : isN n (b, e)) : b < e ∧ e ≤ n ∧ tree n b (e - b) := h
theorem isN_of {n b m : Nat} (h1 : 1 ≤ m) (h2 : b + m ≤ n) (t : tree n b m) : isN n (b, b + m) := ⟨by show b < b + m; omega, h2, by show tree n b (b + m - b); rw [Nat.add_sub_cancel_left]; exact t⟩
theorem full_isN {n b k : Nat} (h2 : b + 2 ^ k ≤ n) (d : 2 ^ k ∣ b) : isN n (b, b + 2 ^ k) := isN_of (Nat.pow_pos (by decide)) h2 ⟨by rw [lb_pow]; exact d, .inl (by rw [lb_pow])⟩
theorem rw1_isN {n b e : Nat} (h : b < e) (hn : e ≤ n) : isN n (b, b + rw1 n b e) := by
  unfold rw1
  split
  · rename_i c
    rw [show b + (e - b) = e by omega]
    exact c
  · obtain ⟨k, e1, e2, e3, _⟩ := rm_is h
    rw [e1]
    exact full_isN (by omega) e2
/-- the first node is the greatest one that begins there -/
theorem rw1_max {n b e y : Nat} (hn : e ≤ n) (hy : isN n (b, y)) (h : y ≤ e) : y ≤ b + rw1 n b e := by
  have hb : b < y := hy.1
  unfold rw1
  split
  · omega
  · rename_i c
    obtain ⟨k, e1, e2, e3, e4⟩ := rm_is (show b < e by omega)
    rw [e1]
    obtain ⟨_, y1, d, t⟩ := isN_tree hy
    rcases t with t | t
    · by_cases z : k < lb (y - b)
      · have := e4 (Nat.dvd_trans (Nat.pow_dvd_pow 2 z) d)
        have := Nat.pow_le_pow_right (n := 2) (by decide) (show k + 1 ≤ lb (y - b) from z)
        omega
      · have := Nat.pow_le_pow_right (n := 2) (by decide) (show lb (y - b) ≤ k by omega)
        omega
    · have : y = e := by omega
      subst this
      exact absurd hy c
/-- a list of nodes one behind the other -/
def Ch (n : Nat) : Nat → Nat → List (Nat × Nat) → Prop
  | lo, hi, [] => lo = hi
  | lo, hi, x :: l => x.1 = lo ∧ isN n x ∧ x.2 ≤ hi ∧ Ch n x.2 hi l
theorem nw_ch {n e : Nat} (hn : e ≤ n) (b : Nat) : b ≤ e → Ch n b e (nw n b e) := by
  refine nw_ind (n := n) (e := e) (p := fun b => b ≤ e → Ch n b e (nw n b e)) (fun b h h2 => ?_) (fun b h ih _ => ?_) b
  · rw [nw_nil h]
    exact Nat.le_antisymm h2 h
  · rw [nw_step h]
    have := rw1_pos (n := n) h
    exact ⟨rfl, rw1_isN h hn, this.2, ih this.2⟩
/-- nothing greater in the stretch has one of them -/
def Mx (n lo hi : Nat) (l : List (Nat × Nat)) : Prop := ∀ x ∈ l, ∀ p, isN n p → lo ≤ p.1 → p.2 ≤ hi → p.1 ≤ x.1 → x.2 ≤ p.2 → p = x
theorem nw_mx {n lo e : Nat} (hn : e ≤ n) (b : Nat) : b ≤ e → lo ≤ b → (∀ p, isN n p → lo ≤ p.1 → p.2 ≤ e → p.1 < b → p.2 ≤ b) → Mx n lo e (nw n b e) := by
  refine nw_ind (n := n) (e := e) (p := fun b => b ≤ e → lo ≤ b → (∀ p, isN n p → lo ≤ p.1 → p.2 ≤ e → p.1 < b → p.2 ≤ b) → Mx n lo e (nw n b e)) (fun b h h2 _ _ => ?_) (fun b h ih h1 h2 h3 => ?_) b
  · rw [nw_nil h]
    exact fun x hx => by cases hx
  · have w := rw1_pos (n := n) h
    have wN := rw1_isN h hn
    have wM : ∀ p, isN n p → lo ≤ p.1 → p.2 ≤ e → p.1 = b → p.2 ≤ b + rw1 n b e := by
      rintro ⟨p1, p2⟩ k1 k2 k3 rfl
      exact rw1_max hn k1 k3
    rw [nw_step h]
    intro x hx
    rcases List.mem_cons.mp hx with rfl | hx
    · rintro ⟨p1, p2⟩ k1 k2 k3 k4 k5
      simp only at k2 k3 k4 k5
      by_cases c : p1 < b
      · have := h3 _ k1 k2 k3 c
        simp only at this
        omega
      · have : p1 = b := by omega
        subst this
        have := wM _ k1 k2 k3 rfl
        simp only at this
        exact Prod.ext rfl (by show p2 = _; omega)
    · refine ih w.2 (by omega) ?_ x hx
      rintro ⟨p1, p2⟩ k1 k2 k3 k4
      simp only at k2 k3 k4 ⊢
      by_cases c : p1 < b
      · have := h3 _ k1 k2 k3 c
        simp only at this
        omega
      · by_cases c2 : p1 = b
        · subst c2
          exact wM _ k1 k2 k3 rfl
        · obtain ⟨q1, q2, q3⟩ := isN_tree k1
          obtain ⟨u1, u2, u3⟩ := isN_tree wN
          have := lam (n := n) (b := b) (m := b + rw1 n b e - b) (B := p1) (M := p2 - p1) u3 (by omega) q3 (by omega) (by omega) (by omega) (by omega)
          omega
theorem nw_max {n b e : Nat} (hn : e ≤ n) (h : b ≤ e) : Mx n b e (nw n b e) := nw_mx hn b h (Nat.le_refl _) (fun p _ k1 _ k3 => by omega)
theorem Ch.mem {n : Nat} : ∀ {lo hi : Nat} {l : List (Nat × Nat)}, Ch n lo hi l → ∀ x ∈ l, isN n x ∧ lo ≤ x.1 ∧ x.2 ≤ hi
  | lo, hi, y :: l, ⟨h1, h2, h3, h4⟩, x, hx => by
    have k := h2.1
    rcases List.mem_cons.mp hx with rfl | hx
    · exact ⟨h2, by omega, h3⟩
    · obtain ⟨k1, k2, k3⟩ := Ch.mem h4 x hx
      exact ⟨k1, by omega, k3⟩
theorem Ch.le {n : Nat} : ∀ {lo hi : Nat} {l : List (Nat × Nat)}, Ch n lo hi l → lo ≤ hi
  | _, _, [], h => Nat.le_of_eq h
  | lo, hi, y :: l, ⟨h1, h2, h3, h4⟩ => by
    have k := h2.1
    omega
theorem Ch.app {n : Nat} : ∀ {lo mid hi : Nat} {l r : List (Nat × Nat)}, Ch n lo mid l → Ch n mid hi r → Ch n lo hi (l ++ r)
  | _, _, _, [], _, h, k => by
    have h : _ = _ := h
    subst h
    exact k
  | _, _, _, x :: l, r, ⟨h1, h2, h3, h4⟩, k => ⟨h1, h2, Nat.le_trans h3 k.le, Ch.app h4 k⟩
/-- each entry between is in one of them -/
theorem Ch.at {n : Nat} : ∀ {lo hi : Nat} {l : List (Nat × Nat)}, Ch n lo hi l → ∀ i, lo ≤ i → i < hi → ∃ x ∈ l, x.1 ≤ i ∧ i < x.2
  | lo, hi, [], h, i, h1, h2 => by
    have h : lo = hi := h
    omega
  | lo, hi, y :: l, ⟨h1, h2, h3, h4⟩, i, k1, k2 => by
    by_cases c : i < y.2
    · exact ⟨y, List.mem_cons_self, by omega, c⟩
    · obtain ⟨x, hx, r⟩ := Ch.at h4 i (by omega) k2
      exact ⟨x, List.mem_cons_of_mem _ hx, r⟩
theorem Ch.sum {n : Nat} : ∀ {lo hi : Nat} {l : List (Nat × Nat)}, Ch n lo hi l → (l.map fun x => x.2 - x.1).sum = hi - lo
  | lo, hi, [], h => by
    have h : lo = hi := h
    simp; omega
  | lo, hi, y :: l, ⟨h1, h2, h3, h4⟩ => by
    have := Ch.sum h4
    have k := h2.1
    have := h4.le
    rw [List.map_cons, List.sum_cons]
    omega
/-- any node within the stretch lies in one of them -/
theorem nw_in {n b e : Nat} (hn : e ≤ n) (h : b ≤ e) {p : Nat × Nat} (hp : isN n p) (h1 : b ≤ p.1) (h2 : p.2 ≤ e) : ∃ x ∈ nw n b e, x.1 ≤ p.1 ∧ p.2 ≤ x.2 := by
  have k := hp.1
  obtain ⟨x, hx, a1, a2⟩ := (nw_ch hn b h).at p.1 h1 (by omega)
  refine ⟨x, hx, a1, ?_⟩
  obtain ⟨x1, x2, x3⟩ := (nw_ch hn b h).mem x hx
  have kx := x1.1
  have kn := x1.2.1
  have pn := hp.2.1
  by_cases c : x.1 < p.1
  · have := lam (n := n) (b := x.1) (m := x.2 - x.1) (B := p.1) (M := p.2 - p.1) x1.2.2 (by omega) hp.2.2 (by omega) (by omega) c (by omega)
    omega
  · by_cases c2 : p.2 ≤ x.2
    · exact c2
    · have := nw_max hn h x hx p hp h1 h2 (by omega) (by omega)
      rw [this]
      exact Nat.le_refl _
/-- a list of nodes one behind the other, none within a greater one of the stretch, is that of the greatest ones -/
theorem nw_unique {n hi lo0 : Nat} (hn : hi ≤ n) : ∀ (l r : List (Nat × Nat)) (lo : Nat), lo0 ≤ lo → Ch n lo hi l → Ch n lo hi r → Mx n lo0 hi l → Mx n lo0 hi r → l = r
  | [], [], _, _, _, _, _, _ => rfl
  | [], y :: r, lo, _, h1, ⟨k1, k2, k3, k4⟩, _, _ => by
    have h1 : lo = hi := h1
    have := k2.1
    omega
  | x :: l, [], lo, _, ⟨k1, k2, k3, k4⟩, h1, _, _ => by
    have h1 : lo = hi := h1
    have := k2.1
    omega
  | x :: l, y :: r, lo, h0, ⟨k1, k2, k3, k4⟩, ⟨j1, j2, j3, j4⟩, m1, m2 => by
    have e : x = y := by
      by_cases c : x.2 ≤ y.2
      · exact (m1 x List.mem_cons_self y j2 (by omega) j3 (by omega) c).symm
      · exact m2 y List.mem_cons_self x k2 (by omega) k3 (by omega) (by omega)
    subst e
    have := k2.1
    rw [nw_unique hn l r x.2 (by omega) k4 j4 (fun z hz => m1 z (List.mem_cons_of_mem _ hz)) (fun z hz => m2 z (List.mem_cons_of_mem _ hz))]
end LT

namespace LT
/-! ### an entry's siblings, by side -/
def lft (b m e : Nat) : List (Nat × Nat) :=
  if h : m ≤ 1 then [] else
    if e < b + gp m then lft b (gp m) e
    else (b, b + gp m) :: lft (b + gp m) (m - gp m) e
termination_by m
decreasing_by
  · exact gp_lt (by omega)
  · have := gp_pos m; omega
theorem lft_one {b m e : Nat} (h : m ≤ 1) : lft b m e = [] := by rw [lft]; simp [h]
theorem lft_low {b m e : Nat} (h : 2 ≤ m) (k : e < b + gp m) : lft b m e = lft b (gp m) e := by
  rw [lft, dif_neg (by omega), if_pos k]
theorem lft_high {b m e : Nat} (h : 2 ≤ m) (k : ¬ e < b + gp m) : lft b m e = (b, b + gp m) :: lft (b + gp m) (m - gp m) e := by
  rw [lft, dif_neg (by omega), if_neg k]
def rgt (b m e : Nat) : List (Nat × Nat) :=
  if h : m ≤ 1 then [] else
    if e < b + gp m then rgt b (gp m) e ++ [(b + gp m, b + m)]
    else rgt (b + gp m) (m - gp m) e
termination_by m
decreasing_by
  · exact gp_lt (by omega)
  · have := gp_pos m; omega
theorem rgt_one {b m e : Nat} (h : m ≤ 1) : rgt b m e = [] := by rw [rgt]; simp [h]
theorem rgt_low {b m e : Nat} (h : 2 ≤ m) (k : e < b + gp m) : rgt b m e = rgt b (gp m) e ++ [(b + gp m, b + m)] := by
  rw [rgt, dif_neg (by omega), if_pos k]
theorem rgt_high {b m e : Nat} (h : 2 ≤ m) (k : ¬ e < b + gp m) : rgt b m e = rgt (b + gp m) (m - gp m) e := by
  rw [rgt, dif_neg (by omega), if_neg k]
/-- induction down the way to an entry -/
theorem way_ind {n e : Nat} {p : Nat → Nat → Prop} (h1 : ∀ b m, m ≤ 1 → b ≤ e → e < b + m → b + m ≤ n → p b m)
    (h2 : ∀ b m, 2 ≤ m → tree n b m → b ≤ e → e < b + gp m → b + m ≤ n → p b (gp m) → p b m)
    (h3 : ∀ b m, 2 ≤ m → tree n b m → b ≤ e → ¬ e < b + gp m → e < b + m → b + m ≤ n → p (b + gp m) (m - gp m) → p b m) :
    ∀ (m b : Nat), tree n b m → b ≤ e → e < b + m → b + m ≤ n → p b m := by
  intro m
  induction m using Nat.strongRecOn with
  | ind m ih =>
    intro b t k1 k2 k3
    by_cases c : m ≤ 1
    · exact h1 b m c k1 k2 k3
    · have m2 : 2 ≤ m := by omega
      have g1 := gp_lt m2
      have g3 := gp_pos m
      by_cases k : e < b + gp m
      · exact h2 b m m2 t k1 k k3 (ih _ g1 b (tree_low m2 t) k1 k (by omega))
      · exact h3 b m m2 t k1 k k2 k3 (ih _ (by omega) _ (tree_high m2 t) (by omega) (by omega) (by omega))
theorem sides_len {n e : Nat} : ∀ (m b : Nat), tree n b m → b ≤ e → e < b + m → b + m ≤ n → (lft b m e).length + (rgt b m e).length = (sib b m e).length := by
  refine way_ind (fun b m h _ _ _ => ?_) (fun b m h _ _ k _ ih => ?_) (fun b m h _ _ k _ _ ih => ?_)
  · rw [lft_one h, rgt_one h, sib_one h]; rfl
  · rw [lft_low h k, rgt_low h k, sib_low h k]; simp only [List.length_append, List.length_cons, List.length_nil]; omega
  · rw [lft_high h k, rgt_high h k, sib_high h k, List.length_cons, List.length_cons]; omega
theorem half_low_isN {n b m : Nat} (h : 2 ≤ m) (t : tree n b m) (hn : b + m ≤ n) : isN n (b, b + gp m) := isN_of (gp_pos m) (by have := gp_lt h; omega) (tree_low h t)
theorem half_high_isN {n b m : Nat} (h : 2 ≤ m) (t : tree n b m) (hn : b + m ≤ n) : isN n (b + gp m, b + m) := by
  have g := gp_lt h
  have := isN_of (n := n) (b := b + gp m) (m := m - gp m) (by omega) (by omega) (tree_high h t)
  rw [show b + gp m + (m - gp m) = b + m by omega] at this
  exact this
theorem lft_ch {n e : Nat} : ∀ (m b : Nat), tree n b m → b ≤ e → e < b + m → b + m ≤ n → Ch n b e (lft b m e) := by
  refine way_ind (fun b m h _ _ _ => ?_) (fun b m h _ _ k _ ih => ?_) (fun b m h t _ k k2 hn ih => ?_)
  · rw [lft_one h]; show b = e; omega
  · rw [lft_low h k]; exact ih
  · rw [lft_high h k]
    exact ⟨rfl, half_low_isN h t hn, by show b + gp m ≤ e; omega, ih⟩
theorem rgt_ch {n e : Nat} : ∀ (m b : Nat), tree n b m → b ≤ e → e < b + m → b + m ≤ n → Ch n (e + 1) (b + m) (rgt b m e) := by
  refine way_ind (fun b m h _ _ _ => ?_) (fun b m h t _ k hn ih => ?_) (fun b m h _ _ k _ _ ih => ?_)
  · rw [rgt_one h]; show e + 1 = b + m; omega
  · rw [rgt_low h k]
    refine ih.app ⟨rfl, half_high_isN h t hn, Nat.le_refl _, rfl⟩
  · rw [rgt_high h k]
    have := gp_lt h
    rw [show b + gp m + (m - gp m) = b + m by omega] at ih
    exact ih
theorem lft_mx {n e : Nat} (he : e < n) : ∀ (m b : Nat), tree n b m → b ≤ e → e < b + m → b + m ≤ n → Mx n 0 e (lft b m e) := by
  refine way_ind (fun b m h _ _ _ => ?_) (fun b m h _ _ k _ ih => ?_) (fun b m h t _ k k2 hn ih => ?_)
  · rw [lft_one h]; exact fun x hx => by cases hx
  · rw [lft_low h k]; exact ih
  · rw [lft_high h k]
    intro x hx
    rcases List.mem_cons.mp hx with rfl | hx
    · rintro ⟨p1, p2⟩ hp _ q2 q3 q4
      simp only at q2 q3 q4
      have g := gp_pos m
      obtain ⟨a1, a2, a3⟩ := isN_tree hp
      by_cases c : p1 < b
      · have := lam (n := n) (b := p1) (m := p2 - p1) (B := b) (M := m) a3 (by omega) t (by omega) hn c (by omega)
        omega
      · have e1 : p1 = b := by omega
        subst e1
        rcases node_in h t hn hp (Nat.le_refl _) (by show p2 ≤ p1 + m; omega) with z | z | z
        · have : p2 = p1 + m := congrArg Prod.snd z
          omega
        · simp only at z
          exact Prod.ext rfl (by show p2 = _; omega)
        · simp only at z
          omega
    · exact ih x hx
theorem rgt_mx {n e : Nat} : ∀ (m b : Nat), tree n b m → b ≤ e → e < b + m → b + m ≤ n → Mx n (e + 1) n (rgt b m e) := by
  refine way_ind (fun b m h _ _ _ => ?_) (fun b m h t hb k hn ih => ?_) (fun b m h _ _ k _ _ ih => ?_)
  · rw [rgt_one h]; exact fun x hx => by cases hx
  · rw [rgt_low h k]
    intro x hx
    rcases List.mem_append.mp hx with hx | hx
    · exact ih x hx
    · rw [List.mem_singleton] at hx
      subst hx
      rintro ⟨p1, p2⟩ hp q1 q2 q3 q4
      simp only at q1 q2 q3 q4
      have g := gp_lt h
      obtain ⟨a1, a2, a3⟩ := isN_tree hp
      have := lam (n := n) (b := b) (m := m) (B := p1) (M := p2 - p1) t (by omega) a3 hn (by omega) (by omega) (by omega)
      have e2 : p2 = b + m := by omega
      rcases node_in h t hn hp (by show b ≤ p1; omega) (by show p2 ≤ b + m; omega) with z | z | z
      · have : p1 = b := congrArg Prod.fst z
        omega
      · simp only at z
        omega
      · simp only at z
        exact Prod.ext (by show p1 = _; omega) (by show p2 = _; omega)
  · rw [rgt_high h k]; exact ih
/-- what lies ahead of an entry, and behind it -/
theorem nw_lft {n e : Nat} (h : e < n) : nw n 0 e = lft 0 n e := by
  have r := tree_root n
  exact nw_unique (n := n) (hi := e) (lo0 := 0) (by omega) _ _ 0 (Nat.le_refl _) (nw_ch (by omega) 0 (by omega)) (lft_ch n 0 r (by omega) (by omega) (by omega)) (nw_max (by omega) (by omega)) (lft_mx h n 0 r (by omega) (by omega) (by omega))
theorem nw_rgt {n e : Nat} (h : e < n) : nw n (e + 1) n = rgt 0 n e := by
  have r := tree_root n
  have c := rgt_ch (e := e) n 0 r (by omega) (by omega) (by omega)
  rw [Nat.zero_add] at c
  exact nw_unique (n := n) (hi := n) (lo0 := e + 1) (Nat.le_refl _) _ _ (e + 1) (Nat.le_refl _) (nw_ch (Nat.le_refl _) (e + 1) (by omega)) c (nw_max (Nat.le_refl _) (by omega)) (rgt_mx n 0 r (by omega) (by omega) (by omega))
theorem nw_single {n e : Nat} (h : e < n) : (nw n 0 e).length + (nw n (e + 1) n).length = (sib 0 n e).length := by
  rw [nw_lft h, nw_rgt h]
  exact sides_len n 0 (tree_root n) (by omega) (by omega) (by omega)
/-! ### peaks -/
theorem pk_ch {n e : Nat} (he : e ≤ n) : ∀ (i b : Nat), 2 ^ i ∣ b → b + e % 2 ^ i = e → Ch n b e ((pk i e b).map full)
  | 0, b, _, h => by rw [Nat.pow_zero, Nat.mod_one] at h; exact h
  | i + 1, b, d, h => by
    rw [mod_succ] at h
    have d' : 2 ^ i ∣ b := Nat.dvd_trans (Nat.pow_dvd_pow 2 (Nat.le_succ i)) d
    show Ch n b e ((if e.testBit i = true then (b, i) :: pk i e (b + 2 ^ i) else pk i e b).map full)
    by_cases t : e.testBit i = true
    · rw [if_pos t] at h ⊢
      refine ⟨rfl, (show isN n (b, b + 2 ^ i) from full_isN (by omega) d'), ?_, pk_ch he i (b + 2 ^ i) (Nat.dvd_add d' (Nat.dvd_refl _)) (by omega)⟩
      show b + 2 ^ i ≤ e
      omega
    · rw [if_neg t] at h ⊢
      exact pk_ch he i b d' (by omega)
theorem pk_mx {n e : Nat} (he : e < n) : ∀ (i b : Nat), 2 ^ i ∣ b → b + e % 2 ^ i = e → Mx n 0 e ((pk i e b).map full)
  | 0, b, _, h => fun x hx => by cases hx
  | i + 1, b, d, h => by
    have ml := Nat.mod_lt e (Nat.pow_pos (a := 2) (n := i + 1) (by decide))
    have hh := h
    rw [mod_succ] at h
    have d' : 2 ^ i ∣ b := Nat.dvd_trans (Nat.pow_dvd_pow 2 (Nat.le_succ i)) d
    show Mx n 0 e ((if e.testBit i = true then (b, i) :: pk i e (b + 2 ^ i) else pk i e b).map full)
    by_cases t : e.testBit i = true
    · rw [if_pos t] at h ⊢
      intro x hx
      rw [List.map_cons] at hx
      rcases List.mem_cons.mp hx with rfl | hx
      · rintro ⟨p1, p2⟩ hp _ q2 q3 q4
        have q3 : p1 ≤ b := q3
        have q4 : b + 2 ^ i ≤ p2 := q4
        simp only at q2
        have pz := Nat.pow_pos (a := 2) (n := i) (by decide)
        obtain ⟨a1, a2, a3, a4⟩ := isN_tree hp
        have a5 : p2 - p1 = 2 ^ lb (p2 - p1) := by
          rcases a4 with a4 | a4
          · exact a4
          · omega
        by_cases c : i < lb (p2 - p1)
        · have m1 := Nat.pow_le_pow_right (n := 2) (by decide) (show i + 1 ≤ lb (p2 - p1) from c)
          have m2 := mul_le_of_lt (R := 2 ^ (i + 1)) d (Nat.dvd_add (Nat.dvd_trans (Nat.pow_dvd_pow 2 (show i + 1 ≤ lb (p2 - p1) from c)) a3) (Nat.pow_dvd_pow 2 (show i + 1 ≤ lb (p2 - p1) from c))) (show b < p1 + 2 ^ lb (p2 - p1) by omega)
          omega
        · have m1 := Nat.pow_le_pow_right (n := 2) (by decide) (show lb (p2 - p1) ≤ i by omega)
          exact Prod.ext (by show p1 = b; omega) (by show p2 = b + 2 ^ i; omega)
      · exact pk_mx he i (b + 2 ^ i) (Nat.dvd_add d' (Nat.dvd_refl _)) (by omega) x hx
    · rw [if_neg t] at h ⊢
      exact pk_mx he i b d' (by omega)
theorem nw_pk {n e : Nat} (h : e < n) (h100 : e < 2 ^ 101) : nw n 0 e = (pk 101 e 0).map full := by
  have em : 0 + e % 2 ^ 101 = e := by rw [Nat.mod_eq_of_lt h100, Nat.zero_add]
  exact nw_unique (n := n) (hi := e) (lo0 := 0) (by omega) _ _ 0 (Nat.le_refl _) (nw_ch (by omega) 0 (by omega)) (pk_ch (by omega) 101 0 (Nat.dvd_zero _) em) (nw_max (by omega) (by omega)) (pk_mx h 101 0 (Nat.dvd_zero _) em)
theorem pk_even : ∀ (i c b b' : Nat), (pk (i + 1) (2 * c) b).length = (pk i c b').length
  | 0, c, b, b' => by
    show (if (2 * c).testBit 0 = true then _ else _ : List (Nat × Nat)).length = 0
    have : (2 * c).testBit 0 = false := by simp
    rw [this]
    rfl
  | i + 1, c, b, b' => by
    show (if (2 * c).testBit (i + 1) = true then (b, i + 1) :: pk (i + 1) (2 * c) (b + 2 ^ (i + 1)) else pk (i + 1) (2 * c) b).length = (if c.testBit i = true then (b', i) :: pk i c (b' + 2 ^ i) else pk i c b').length
    rw [Nat.testBit_succ, show 2 * c / 2 = c by omega]
    by_cases t : c.testBit i = true
    · rw [if_pos t, if_pos t, List.length_cons, List.length_cons, pk_even i c _ (b' + 2 ^ i)]
    · rw [if_neg t, if_neg t, pk_even i c b b']
theorem pk_odd : ∀ (i c b b' : Nat), (pk (i + 1) (2 * c + 1) b).length = (pk i c b').length + 1
  | 0, c, b, b' => by
    show (if (2 * c + 1).testBit 0 = true then (b, 0) :: ([] : List (Nat × Nat)) else []).length = 0 + 1
    have : (2 * c + 1).testBit 0 = true := by simp
    rw [this]
    rfl
  | i + 1, c, b, b' => by
    show (if (2 * c + 1).testBit (i + 1) = true then (b, i + 1) :: pk (i + 1) (2 * c + 1) (b + 2 ^ (i + 1)) else pk (i + 1) (2 * c + 1) b).length = (if c.testBit i = true then (b', i) :: pk i c (b' + 2 ^ i) else pk i c b').length + 1
    rw [Nat.testBit_succ, show (2 * c + 1) / 2 = c by omega]
    by_cases t : c.testBit i = true
    · rw [if_pos t, if_pos t, List.length_cons, List.length_cons, pk_odd i c _ (b' + 2 ^ i)]
    · rw [if_neg t, if_neg t, pk_odd i c b b']
theorem pow_dvd_odd {k c : Nat} (h : 2 ^ k ∣ 2 * c + 1) : k = 0 := by
  cases k with
  | zero => rfl
  | succ k =>
    have := Nat.dvd_trans (⟨2 ^ k, by rw [Nat.pow_succ, Nat.mul_comm]⟩ : 2 ∣ 2 ^ (k + 1)) h
    omega
theorem pk_pred : ∀ (i e k b b' : Nat), 0 < e → e < 2 ^ i → 2 ^ k ∣ e → ¬ 2 ^ (k + 1) ∣ e → (pk i e b).length + k = (pk i (e - 1) b').length + 1
  | 0, e, k, _, _, h, h2, _, _ => by simp at h2; omega
  | i + 1, e, k, b, b', h, h2, d1, d2 => by
    rcases Nat.mod_two_eq_zero_or_one e with z | z
    · obtain ⟨c, rfl⟩ : ∃ c, e = 2 * c := ⟨e / 2, by omega⟩
      have kp : k ≠ 0 := fun y => d2 (by rw [y]; exact ⟨c, by simp⟩)
      obtain ⟨j, rfl⟩ : ∃ j, k = j + 1 := ⟨k - 1, by omega⟩
      rw [Nat.pow_succ] at h2
      have ih := pk_pred i c j 0 0 (by omega) (by omega) (by rw [Nat.pow_succ, Nat.mul_comm] at d1; exact Nat.dvd_of_mul_dvd_mul_left (by decide) d1) (fun y => d2 (by rw [Nat.pow_succ, Nat.mul_comm]; exact Nat.mul_dvd_mul_left 2 y))
      rw [show 2 * c - 1 = 2 * (c - 1) + 1 by omega, pk_even i c b 0, pk_odd i (c - 1) b' 0]
      omega
    · obtain ⟨c, rfl⟩ : ∃ c, e = 2 * c + 1 := ⟨e / 2, by omega⟩
      have := pow_dvd_odd d1
      subst this
      rw [show 2 * c + 1 - 1 = 2 * c by omega, pk_odd i c b 0, pk_even i c b' 0]
theorem lb_big {n : Nat} (h : 2 ≤ n) : lb n = Nat.log2 (n - 1) + 1 := by unfold lb; rw [if_neg (by omega)]
end LT

namespace LT
open PySem PySem.Spec PyProof.Rows L2
/-! ### lists of ints as data -/
theorem ints_lay : ∀ ns : List Int, PyData.canLayAll0 (ns.map PyData.int) = true
  | [] => by simp [PyData.canLayAll0]
  | n :: ns => by simp [PyData.canLayAll0, PyData.canLay0, ints_lay ns]
theorem ints_depth : ∀ ns : List Int, PyData.depthAll (ns.map PyData.int) ≤ 1
  | [] => by simp [PyData.depthAll]
  | n :: ns => by
    have := ints_depth ns
    simp only [List.map_cons, PyData.depthAll, PyData.depth]
    omega
theorem ints_shaped (ns : List Int) : SeqAt.shaped (.list (ns.map PyData.int)) = true := by
  have h := ints_depth ns
  have h2 : PyData.depth (.list (ns.map PyData.int)) ≤ 64 := by
    simp only [PyData.depth]
    omega
  show (PyData.canLay0 (.list (ns.map PyData.int)) && decide (PyData.depth (.list (ns.map PyData.int)) ≤ 64)) = true
  rw [Bool.and_eq_true]
  exact ⟨by simp only [PyData.canLay0]; exact ints_lay ns, decide_eq_true h2⟩
theorem ints_dp {K : PySem.W.Frag} {H : Hp} : ∀ ns : List Int, DpAll K H (ns.map V.int) (ns.map PyData.int)
  | [] => .nil
  | n :: ns => .cons (.int n) (ints_dp ns)
theorem ints_nil : ∀ ns : List Int, PyData.eqv (.list (ns.map PyData.int)) (.list []) = ns.isEmpty
  | [] => by simp only [List.map_nil, PyData.eqv, PyData.eqvAll, List.isEmpty_nil]
  | n :: ns => by simp only [List.map_cons, PyData.eqv, PyData.eqvAll, List.isEmpty_cons]
theorem nil_shaped : SeqAt.shaped (.list []) = true := ints_shaped []
end LT

namespace LT
open PySem PySem.Spec PyProof.Rows L2
def nd (x : Nat × Nat) : PyData := .tuple [.int x.1, .int x.2]
theorem nds_lay : ∀ l : List (Nat × Nat), PyData.canLayAll0 (l.map nd) = true
  | [] => by simp [PyData.canLayAll0]
  | x :: l => by simp [PyData.canLayAll0, nd, PyData.canLay0, nds_lay l]
theorem nds_depth : ∀ l : List (Nat × Nat), PyData.depthAll (l.map nd) ≤ 2
  | [] => by simp [PyData.depthAll]
  | x :: l => by
    have := nds_depth l
    simp only [List.map_cons, PyData.depthAll, nd, PyData.depth]
    omega
theorem nds_shaped (l : List (Nat × Nat)) : SeqAt.shaped (.list (l.map nd)) = true := by
  have h := nds_depth l
  have h2 : PyData.depth (.list (l.map nd)) ≤ 64 := by
    simp only [PyData.depth]
    omega
  show (PyData.canLay0 (.list (l.map nd)) && decide (PyData.depth (.list (l.map nd)) ≤ 64)) = true
  rw [Bool.and_eq_true]
  exact ⟨by simp only [PyData.canLay0]; exact nds_lay l, decide_eq_true h2⟩
theorem nds_dp {K : PySem.W.Frag} {H : Hp} : ∀ {vs : List V} {l : List (Nat × Nat)}, All2 (Nd H) vs l → DpAll K H vs (l.map nd)
  | _, _, .nil => .nil
  | _, _, .cons h t => .cons h.dp (nds_dp t)
theorem nds_any (l : List (Nat × Nat)) (x : Nat × Nat) : (l.map nd).any (fun z => PyData.eqv z (.tuple [.int x.1, .int x.2])) = decide (x ∈ l) := by
  induction l with
  | nil => simp
  | cons y l ih =>
    rw [List.map_cons, List.any_cons, ih]
    show (PyData.eqv (.tuple [.int y.1, .int y.2]) _ || _) = _
    rw [nd_eqv]
    by_cases c : x = y
    · subst c
      simp
    · have e : (decide ((y.1 : Int) = (x.1 : Int)) && decide ((y.2 : Int) = (x.2 : Int))) = false := by
        rw [Bool.and_eq_false_iff]
        by_cases c1 : y.1 = x.1
        · right
          refine decide_eq_false (fun z => c (Prod.ext c1.symm ?_))
          omega
        · left
          exact decide_eq_false (fun z => c1 (by omega))
      rw [e, Bool.false_or]
      simp [c]
end LT

namespace LT
open PySem PySem.Spec PyProof.Rows L2
theorem ndt_shaped (l : List (Nat × Nat)) : SeqAt.shaped (.tuple (l.map nd)) = true := by
  have h := nds_depth l
  have h2 : PyData.depth (.tuple (l.map nd)) ≤ 64 := by
    simp only [PyData.depth]
    omega
  show (PyData.canLay0 (.tuple (l.map nd)) && decide (PyData.depth (.tuple (l.map nd)) ≤ 64)) = true
  rw [Bool.and_eq_true]
  exact ⟨by simp only [PyData.canLay0]; exact nds_lay l, decide_eq_true h2⟩
theorem tup_dp {K : PySem.W.Frag} {H : Hp} {p : Addr} {vs : List V} {l : List (Nat × Nat)} (h : H p = some (.tup vs)) (k : All2 (Nd H) vs l) : Dp K H (.ref p) (.tuple (l.map nd)) := .tup (SqT.of h) (nds_dp k)
theorem lst_dp {K : PySem.W.Frag} {H : Hp} {p : Addr} {vs : List V} {l : List (Nat × Nat)} (h : H p = some (.lst vs)) (k : All2 (Nd H) vs l) : Dp K H (.ref p) (.list (l.map nd)) := .lst (SqL.of h) (nds_dp k)
end LT

namespace LT
open PySem PySem.Spec PyProof.Rows L2
section
variable {P : Program} {w : World} {K : PySem.W.Frag} {mg : Str → Option Value} {base : Heap}
/-! ### walking an enumerate -/
theorem for_enum {a : Addr} {xs : List V} {g : TG} {tb : TS} {D : Ends} {σ : L2.St} {H : Hp} (Pv : Nat → L2.St → Hp → Prop) (h0 : Pv 0 σ H) (hl : ∀ i σ H, i ≤ xs.length → Pv i σ H → SqL K H a xs)
    (hs : ∀ i x σ H T, xs[i]? = some x → Pv i σ H → H T = none → g (.ref T) σ (upd H T (.tup [.int (i : Nat), x])) fun σ2 H2 => tb { D with nx := Pv (i + 1), ct := Pv (i + 1), bk := D.nx } σ2 H2) (hd : ∀ σ H, Pv xs.length σ H → D.nx σ H) :
    ∃ W : Nat → Nat → L2.St → Hp → Prop, (∃ m, W 0 m σ H) ∧ ∀ i m σ H, W i m σ H →
      ((Ite K a).stop i H ∧ D.nx σ H) ∨ ((Ite K a).go i H ∧ ∃ N : L2.St → Hp → Prop, (∀ σ' H', N σ' H' → ∃ m', m' < m ∧ W (i + 1) m' σ' H') ∧ ∀ x H', (Ite K a).yld i H x H' → g x σ H' fun σ2 H2 => tb { D with nx := N, ct := N, bk := D.nx } σ2 H2) := by
  refine ⟨fun i m σ H => m = xs.length - i ∧ i ≤ xs.length ∧ Pv i σ H, ⟨xs.length, by simp, Nat.zero_le _, h0⟩, ?_⟩
  rintro i m σ H ⟨rfl, hi, p⟩
  have q := hl i σ H hi p
  by_cases hlt : i < xs.length
  · refine .inr ⟨⟨xs, xs[i], q, by simp [hlt]⟩, Pv (i + 1), fun σ' H' p' => ⟨xs.length - (i + 1), by omega, rfl, hlt, p'⟩, fun x H' y => ?_⟩
    obtain ⟨T, x1, rfl, nT, rfl, f⟩ := y
    exact hs i x1 σ H T (f xs q) p nT
  · have e : i = xs.length := by omega
    subst e
    exact .inl ⟨⟨xs, q, Nat.le_refl _⟩, hd σ H p⟩
end
end LT

namespace LT
open PySem PySem.Spec PyProof.Rows L2
theorem nds_eqvAll : ∀ l k : List (Nat × Nat), PyData.eqvAll (l.map nd) (k.map nd) = decide (l = k)
  | [], [] => by simp [PyData.eqvAll]
  | [], y :: k => by simp [PyData.eqvAll]
  | x :: l, [] => by simp [PyData.eqvAll]
  | x :: l, y :: k => by
    have e : PyData.eqvAll ((x :: l).map nd) ((y :: k).map nd) = (PyData.eqv (nd x) (nd y) && PyData.eqvAll (l.map nd) (k.map nd)) := by simp only [List.map_cons, PyData.eqvAll]
    rw [e, nds_eqvAll l k]
    unfold nd
    rw [nd_eqv]
    by_cases h : x = y
    · subst h
      simp
    · have : ¬ ((x.1 : Int) = (y.1 : Int) ∧ (x.2 : Int) = (y.2 : Int)) := fun z => h (Prod.ext (by omega) (by omega))
      have e2 : (decide ((x.1 : Int) = (y.1 : Int)) && decide ((x.2 : Int) = (y.2 : Int))) = false := by
        rw [Bool.and_eq_false_iff]
        by_cases h1 : (x.1 : Int) = (y.1 : Int)
        · exact .inr (decide_eq_false fun z => this ⟨h1, z⟩)
        · exact .inl (decide_eq_false h1)
      rw [e2]
      simp [h]
theorem nds_eqv (l k : List (Nat × Nat)) : PyData.eqv (.list (l.map nd)) (.list (k.map nd)) = decide (l = k) := by
  have e : PyData.eqv (.list (l.map nd)) (.list (k.map nd)) = PyData.eqvAll (l.map nd) (k.map nd) := by simp only [PyData.eqv]
  rw [e, nds_eqvAll]
end LT

namespace LT
open PySem PySem.Spec PyProof.Rows L2
section
variable {P : Program} {w : World} {K : PySem.W.Frag} {mg : Str → Option Value} {base : Heap}
def spBag : Sp := fun vs H Q _ => ∃ c : Int, vs = [.int c] ∧ ∀ (H' : Hp) (p : Addr), Same H H' → H p = none → BagAt H' p → Q (.ref p) H'
theorem ok_law_bag {f : Addr} {fd : FuncData} (F : Fun K "_law_bag" "_law_bag" sLawBag f fd) (z_max : mg "max" = none) : FnOk P w K mg base CX0 1 f fd ["cell"] spBag := by
  refine F.ok scLawBag (fun vs H Q E h => ?_) (fun cdv A outer s H vs Q E hr h => ?_)
  · obtain ⟨_, rfl, _⟩ := h
    rfl
  obtain ⟨c, rfl, q⟩ := h
  refine ⟨_, (pss_one (ps_ret (pe_lst (pa_cons (pe_callB (call_max2 rfl) (by rfl) z_max (by decide +kernel) (pa_cons pe_int (pa_cons (pe_op op_sub (pv 0) (pe_op op_pow pe_int pe_int)) pa_nil))) (pa_cons (pv 0) (pa_cons pe_int pa_nil)))))), ?_⟩
  refine ⟨_, rfl, _, _, rfl, rfl, ⟨by decide, by decide, by decide⟩, _, _, rfl, rfl, _, _, rfl, _, rfl, (by show 3 ≤ sizeLine; decide), fun p np => ?_⟩
  exact q _ p (same_upd np) np ⟨_, _, _, upd_same⟩
theorem fm0 (x : Int) {m : Int} (h : 0 < m) : 0 ≤ x.fmod m := by
  rw [Int.fmod_eq_emod_of_nonneg _ (by omega)]
  exact Int.emod_nonneg _ (by omega)
theorem fm1 (x : Int) {m : Int} (h : 0 < m) : x.fmod m < m := by
  rw [Int.fmod_eq_emod_of_nonneg _ (by omega)]
  exact Int.emod_lt_of_pos _ h
def spPick : Sp := fun vs H Q _ => ∃ (b : Addr) (many : Int), vs = [.ref b, .int many] ∧ 0 < many ∧ many.natAbs < 2 ^ 250 ∧ BagAt H b ∧
  ∀ (r : Int) (H' : Hp), 0 ≤ r → r < many → (∀ a, a ≠ b → H' a = H a) → BagAt H' b → Q (.int r) H'
theorem ok_law_pick {f : Addr} {fd : FuncData} (F : Fun K "_law_pick" "_law_pick" sLawPick f fd) (z_int : mg "int" = none) : FnOk P w K mg base CX0 1 f fd ["bag", "many"] spPick := by
  refine F.ok scLawPick (fun vs H Q E h => ?_) (fun cdv A outer s H vs Q E hr h => ?_)
  · obtain ⟨_, _, rfl, _⟩ := h
    rfl
  obtain ⟨b, many, rfl, hm, hm2, ⟨x, y, z, h0⟩, q⟩ := h
  refine ⟨_, (pss_cons (ps_asg (pe_op op_add (pe_ix ix_list (pv 0) pe_int (fun _ _ => rfl)) pe_int) (pg_sub (pv 0) pe_int set_list))
    (pss_cons (ps_if (pt_cmpR op_gt (pe_ix ix_list (pv 0) pe_int (fun _ _ => rfl)) pe_int (nomark _))
    (pss_cons (ps_set (i := 2) scLawPick.nd rfl (Or.inl rfl) (pe_op op_modN (pe_callTy call_int1 (by rfl) z_int (by decide +kernel) (pa_cons (pe_ix ix_list (pv 0) pe_int (fun _ _ => rfl)) pa_nil)) (pv 1)))
    (pss_cons (ps_asg (pe_op op_fdivW (pe_callTy call_int1 (by rfl) z_int (by decide +kernel) (pa_cons (pe_ix ix_list (pv 0) pe_int (fun _ _ => rfl)) pa_nil)) (pv 1)) (pg_sub (pv 0) pe_int set_list))
    (pss_one (ps_ret (pv 2)))))
    pss_nil)
    (pss_cons (ps_par (i := 3) (j := 4) (by rfl) scLawPick.nd rfl rfl (by decide) rfl rfl (pa_cons (pe_callTy call_int1 (by rfl) z_int (by decide +kernel) (pa_cons (pe_ix ix_list (pv 0) pe_int (fun _ _ => rfl)) pa_nil)) (pa_cons (pe_callTy call_int1 (by rfl) z_int (by decide +kernel) (pa_cons (pe_ix ix_list (pv 0) pe_int (fun _ _ => rfl)) pa_nil)) pa_nil)) (by rfl))
    (pss_cons (ps_set (i := 5) scLawPick.nd rfl (Or.inl rfl) (pe_op op_modN (pe_callTy call_int1 (by rfl) z_int (by decide +kernel) (pa_cons (pe_op op_add (pe_op op_add (pe_op op_mul (pe_op op_modN (pv 3) pe_int) pe_int) (pe_op op_mul (pv 4) pe_int)) pe_int) pa_nil)) pe_int))
    (pss_cons (ps_set (i := 6) scLawPick.nd rfl (Or.inl rfl) (pe_op op_modN (pe_callTy call_int1 (by rfl) z_int (by decide +kernel) (pa_cons (pe_op op_add (pe_op op_mul (pv 5) (pv 5)) (pe_op op_mul (pv 4) pe_int)) pa_nil)) pe_int))
    (pss_cons (ps_set (i := 7) scLawPick.nd rfl (Or.inl rfl) (pe_op op_fdivW (pe_callTy call_int1 (by rfl) z_int (by decide +kernel) (pa_cons (pe_op op_add (pe_op op_mul (pv 5) pe_int) (pv 6)) pa_nil)) pe_int))
    (pss_cons (ps_if (pt_cmpR op_gt (pv 1) (pe_op op_pow pe_int pe_int) (nomark _))
    (pss_one (ps_set (i := 7) scLawPick.nd rfl (Or.inl rfl) (pe_op op_add (pe_op op_pow (pv 7) pe_int) (pv 6))))
    pss_nil)
    (pss_one (ps_ret (pe_op op_modN (pe_callTy call_int1 (by rfl) z_int (by decide +kernel) (pa_cons (pv 7) pa_nil)) (pv 1))))))))))), ?_⟩
  refine ⟨_, rfl, b, _, _, _, rfl, rfl, SqL.of h0, atI_nat (j := 2) rfl, _, _, rfl, rfl, _, rfl, b, _, _, 2, rfl, rfl, h0, rfl, ?_⟩
  dsimp only
  have h1 : (upd H b (.lst ([.int x, .int y, .int z].set 2 (.int (z + 1))))) b = some (.lst [.int x, .int y, .int (z + 1)]) := upd_same
  have k1 : ∀ a, a ≠ b → (upd H b (.lst ([.int x, .int y, .int z].set 2 (.int (z + 1))))) a = H a := fun a ha => upd_ne ha
  generalize upd H b (.lst ([.int x, .int y, .int z].set 2 (.int (z + 1)))) = H1 at h1 k1
  refine ⟨_, rfl, b, _, _, _, rfl, rfl, SqL.of h1, atI_nat (j := 0) rfl, _, _, rfl, rfl, _, rfl, ite2 (fun c => ?_) (fun c => ?_)⟩
  · refine ⟨_, rfl, b, _, _, _, rfl, rfl, SqL.of h1, atI_nat (j := 0) rfl, .inl ⟨_, rfl, _, rfl, _, _, rfl, rfl, by omega, ?_⟩⟩
    refine ⟨_, rfl, b, _, _, _, rfl, rfl, SqL.of h1, atI_nat (j := 0) rfl, .inl ⟨_, rfl, _, rfl, _, _, rfl, rfl, wide_div hm hm2 (by decide) (by decide), _, rfl, b, _, _, 0, rfl, rfl, h1, rfl, ?_⟩⟩
    refine ⟨_, rfl, ?_⟩
    exact q _ _ (fm0 x hm) (fm1 x hm) (fun a ha => by rw [upd_ne ha]; exact k1 a ha) ⟨_, _, _, upd_same⟩
  · refine ⟨_, rfl, b, _, _, _, rfl, rfl, SqL.of h1, atI_nat (j := 1) rfl, .inl ⟨_, rfl, _, rfl, b, _, _, _, rfl, rfl, SqL.of h1, atI_nat (j := 2) rfl, .inl ⟨_, rfl, _, _, rfl, ?_⟩⟩⟩
    refine ⟨_, rfl, _, _, rfl, rfl, (by show (2147483629 : Int) ≠ 0; decide), _, _, rfl, rfl, .inr ⟨by decide, by decide⟩, _, rfl, _, _, rfl, rfl, .inr ⟨by decide, by decide⟩, _, _, rfl, rfl, _, _, rfl, rfl, .inl ⟨_, rfl, _, _, rfl, rfl, (by show (2147483647 : Int) ≠ 0; decide), ?_⟩⟩
    dsimp only
    have a0 := fm0 (y.fmod 2147483629 * 48271 + (z + 1) * 69621 + 12345) (m := 2147483647) (by decide)
    have a1 := fm1 (y.fmod 2147483629 * 48271 + (z + 1) * 69621 + 12345) (m := 2147483647) (by decide)
    generalize (y.fmod 2147483629 * 48271 + (z + 1) * 69621 + 12345).fmod 2147483647 = fi at a0 a1
    refine ⟨_, rfl, _, rfl, _, _, rfl, rfl, .inl ⟨by omega, by omega⟩, _, rfl, _, _, rfl, rfl, .inr ⟨by decide, by decide⟩, _, _, rfl, rfl, .inl ⟨_, rfl, _, _, rfl, rfl, (by show (2147483587 : Int) ≠ 0; decide), ?_⟩⟩
    dsimp only
    have b0 := fm0 (fi * fi + (z + 1) * 40692) (m := 2147483587) (by decide)
    have b1 := fm1 (fi * fi + (z + 1) * 40692) (m := 2147483587) (by decide)
    generalize (fi * fi + (z + 1) * 40692).fmod 2147483587 = se at b0 b1
    refine ⟨_, rfl, _, _, rfl, rfl, .inl ⟨by omega, by omega⟩, _, rfl, _, _, rfl, rfl, .inl ⟨_, rfl, _, _, rfl, rfl, wide_div (b := 6) (by decide) (by decide) (by decide) (by decide), ?_⟩⟩
    dsimp only
    have c0 : 0 ≤ (fi * 2147483587 + se) / 32 := by omega
    have c1 : (fi * 2147483587 + se) / 32 < 2 ^ 62 := by omega
    generalize (fi * 2147483587 + se) / 32 = dr at c0 c1
    refine ⟨_, rfl, _, _, rfl, rfl, ⟨by decide, by decide, by decide⟩, _, _, rfl, rfl, _, rfl, ite2 (fun c => ?_) (fun c => ?_)⟩
    · refine ⟨_, rfl, _, _, rfl, rfl, ⟨by decide, by decide, by omega⟩, _, rfl, _, _, rfl, rfl, ?_⟩
      refine ⟨_, rfl, .inl ⟨_, rfl, _, rfl, _, _, rfl, rfl, by omega, ?_⟩⟩
      exact q _ _ (fm0 _ hm) (fm1 _ hm) k1 ⟨_, _, _, h1⟩
    · refine ⟨_, rfl, .inl ⟨_, rfl, _, rfl, _, _, rfl, rfl, by omega, ?_⟩⟩
      exact q _ _ (fm0 _ hm) (fm1 _ hm) k1 ⟨_, _, _, h1⟩
end
end LT

namespace LT
open PySem PySem.Spec PyProof.Rows L2
section
variable {P : Program} {w : World} {K : PySem.W.Frag} {mg : Str → Option Value} {base : Heap}
theorem But.same {b : Addr} {H H1 H2 : Hp} (x : But b H H1) (y : Same H1 H2) : But b H H2 := fun a o n h => y a o (x a o n h)
theorem But.pick {b : Addr} {H H1 H2 : Hp} (x : But b H H1) (k : ∀ a, a ≠ b → H2 a = H1 a) : But b H H2 := fun a o n h => by rw [k a n]; exact x a o n h
theorem BagAt.ne {H : Hp} {b p : Addr} (h : BagAt H b) (n : H p = none) : p ≠ b := fun z => by
  obtain ⟨_, _, _, e⟩ := h
  rw [← z, n] at e
  cases e
theorem BagAt.upd {H : Hp} {b p : Addr} {o : HO} (h : BagAt H b) (n : p ≠ b) : BagAt (upd H p o) b := by
  obtain ⟨x, y, z, e⟩ := h
  exact ⟨x, y, z, by rw [upd_ne (fun z => n z.symm)]; exact e⟩
end
end LT

namespace LT
open PySem PySem.Spec PyProof.Rows L2
section
variable {P : Program} {w : World} {K : PySem.W.Frag} {mg : Str → Option Value} {base : Heap}
def spListOf : Sp := fun vs H Q _ => ∃ (p : Addr) (xs : List V) (lo hi : Nat), vs = [.ref p, .int lo, .int hi] ∧ H p = some (.lst xs) ∧ lo ≤ xs.length ∧ xs.length ≤ hi ∧ Q (.bl true) H
theorem ok_is_list_of {f : Addr} {fd : FuncData} (F : Fun K "is_list_of" "is_list_of" sIsListOf f fd) (z_isinstance : mg "isinstance" = none) (z_list : mg "list" = none) (z_len : mg "len" = none) : FnOk P w K mg base CX0 1 f fd ["value", "least", "most"] spListOf := by
  refine F.ok scIsListOf (fun vs H Q E h => ?_) (fun cdv A outer s H vs Q E hr h => ?_)
  · obtain ⟨_, _, _, _, rfl, _⟩ := h
    rfl
  obtain ⟨p, xs, lo, hi, rfl, hp, h1, h2, q⟩ := h
  refine ⟨_, (pss_one (ps_ret (pe_and (pe_callB call_isi (by rfl) z_isinstance (by decide +kernel) (pa_cons (pv 0) (pa_cons (pe_bltn (v := .ty "list") (u := .type "list") (by rfl) z_list (by decide +kernel) rfl) pa_nil))) (pe_one (pe_chain op_le op_le (pv 1) (pe_callB call_len_seq (by rfl) z_len PySem.boot_len (pa_cons (pv 0) pa_nil)) (pv 2)))))), ?_⟩
  refine ⟨_, rfl, _, _, _, _, true, rfl, .ty "list", .base (.lst hp), kit_ty (by decide +kernel), true, rfl, ?_⟩
  refine ⟨_, rfl, _, rfl, p, xs, rfl, .inl (SqL.of hp), _, _, rfl, rfl, true, congrArg V.bl (decide_eq_true (by omega)), _, rfl, _, _, rfl, rfl, ?_⟩
  show Q (.bl (decide (((xs.length : Nat) : Int) ≤ (hi : Int)))) H
  rw [decide_eq_true (show ((xs.length : Nat) : Int) ≤ (hi : Int) by omega)]
  exact q
end
end LT

namespace LT
open PySem PySem.Spec PyProof.Rows L2
/-- a def with defaults dvs, as it stands behind the top -/
structure FunT (K : PySem.W.Frag) (x qual : Str) (st : Stmt) (its : List Value) (dvs : List V) (f : Addr) (fd : FuncData) : Prop where
  ex : ∃ (oc : Value) (od : Option Addr) (T : Addr) (kV doc pm : Value) (an : Option Addr) (cdv ct : Value) (osl : Array (Option Value)) (o : Obj) (n : Nat),
    fd = PySem.W.fnOf x qual (defArgs st) (defBody st) (defScope st) (.ref T) kV doc pm an cdv ct ∧ K.lookup f = some ⟨oc, od, .func fd, osl⟩ ∧ PySem.W.codeIn K cdv qual = true ∧ K.lookup T = some o ∧ o.data = .seq its.toArray n
  kp : PySem.W.keepIn K (.ref f) = true
  v : Vals dvs its
/-- how it is called with its defaults -/
structure AtT (K : PySem.W.Frag) (mg : Str → Option Value) (x : Str) (f : Addr) (fd : FuncData) (ps : List Str) (ds : List Value) (dvs : List V) : Prop where
  m : mg x = some (.ref f)
  kp : PySem.W.keepIn K (.ref f) = true
  b : Binds K fd ps ds
  v : Vals dvs ds
section
variable {P : Program} {w : World} {K : PySem.W.Frag} {mg : Str → Option Value} {base : Heap}
theorem FunT.ok {x qual : Str} {st : Stmt} {its : List Value} {dvs : List V} {f : Addr} {fd : FuncData} {N ps : List Str} {k : Nat} {sp : Sp} (F : FunT K x qual st its dvs f fd) (S : FnScope N ps (defScope st)) (len : ∀ vs H Q E, sp vs H Q E → vs.length = ps.length)
    (hbody : ∀ (cdv : Value) (A : Around) (outer : List Env) (s : Shared) (H : Hp) (vs : List V) (Q : VK) (E : XK), Room k (A.deeper (envOfC qual (defScope st) s.heap.objs.size f cdv)) → sp vs H Q E →
      ∃ t, PSs (cxOf CX0 P w K mg base N qual (defScope st) f cdv A outer s H E).nox (defBody st) t ∧ t { nx := fun _ H' => Q .non H', rt := Q } (start N vs) H) : FnOk P w K mg base CX0 (k + 1) f fd ps sp := by
  obtain ⟨oc, od, T, kV, doc, pm, an, cdv, ct, osl, o, n, rfl, lk, hcd, lT, oT⟩ := F.ex
  refine fn_of lk hcd S len fun A outer s H vs Q E hr hsp => ?_
  obtain ⟨t, h, q⟩ := hbody cdv A outer s H vs Q E hr hsp
  exact ⟨t, h.nox, q⟩
theorem funT_mk {x qual : Str} {st : Stmt} {f T : Addr} {oc tc : Value} {od an td : Option Addr} {osl tsl : Array (Option Value)} {tits : Array Value} {tn : Nat} {dvs : List V} {kV doc pm cdv ct : Value} (l : K.lookup f = some ⟨oc, od, .func (PySem.W.fnOf x qual (defArgs st) (defBody st) (defScope st) (.ref T) kV doc pm an cdv ct), osl⟩)
    (c : PySem.W.codeIn K cdv qual = true) (k : PySem.W.keepIn K (.ref f) = true) (lT : K.lookup T = some ⟨tc, td, .seq tits tn, tsl⟩) (v : Vals dvs tits.toList) : FunT K x qual st tits.toList dvs f (PySem.W.fnOf x qual (defArgs st) (defBody st) (defScope st) (.ref T) kV doc pm an cdv ct) :=
  ⟨⟨oc, od, T, kV, doc, pm, an, cdv, ct, osl, _, tn, rfl, l, c, lT, by simp⟩, k, v⟩
theorem FunT.binds {x qual : Str} {st : Stmt} {its : List Value} {dvs : List V} {f : Addr} {fd : FuncData} {ps : List Str} {n m : Nat} (F : FunT K x qual st its dvs f fd) (hm : dvs.length = m)
    (h : ∀ (T : Addr) (kV doc pm : Value) (an : Option Addr) (cdv ct : Value) (us its : List Value), us.length = n → its.length = m →
      ∃ k, bindArgs (PySem.W.fnOf x qual (defArgs st) (defBody st) (defScope st) (.ref T) kV doc pm an cdv ct) ⟨us, []⟩ = seqItems? (.ref T) >>= k ∧ k (some its.toArray) = pure (ps.zip (us ++ its))) (hn : n + m = ps.length := by rfl) : Binds K fd ps its := by
  obtain ⟨oc, od, T, kV, doc, pm, an, cdv, ct, osl, o, nn, rfl, lk, hcd, lT, oT⟩ := F.ex
  intro s us X hl
  have e := F.v.length
  rw [List.length_append] at hl
  obtain ⟨k, e1, e2⟩ := h T kV doc pm an cdv ct us its (by omega) (by omega)
  refine BindsTo.of_looks fun M => ?_
  rw [e1]
  exact looks_items X lT oT (.of_pure e2)
end
section
variable {X : Cx} {s : Shared} {H : Hp} {sc : Scope} {ce : Env} {fp : List Addr}
theorem pi_listB {tg l : Expr} {tl : TE} (hl : PE (X.blk s H sc ce fp) l tl) : PI (X.blk s H sc ce fp) tg l (iList X.K tl) := pi_list hl
end
section
variable {K : PySem.W.Frag} {a D : Addr} {xs : List V} {g g1 : TG} {tt tt1 : TT} {te : TE} {wi1 : TI} {vs vs1 : List Nat} {σ : L2.St} {H1 : Hp} {Qd : Hp → Prop}
/-- the inner walk of a comprehension with two for -/
abbrev InT (D : Addr) (wi1 : TI) (g1 : TG) (tt1 : TT) (te : TE) (vs1 : List Nat) (Nx : Hp → Prop) (σ2 : L2.St) (H3 : Hp) : Prop := wi1 σ2 H3 fun J1 H4 => ∃ W1 : Nat → Nat → Hp → Prop, (∃ m, W1 0 m H4) ∧ ∀ j k H, W1 j k H →
  (J1.stop j H ∧ Nx H) ∨ (J1.go j H ∧ ∃ Nx1 : Hp → Prop, (∀ H', Nx1 H' → ∃ k', k' < k ∧ W1 (j + 1) k' H') ∧ ∀ x H', J1.yld j H x H' → g1 x (wipe σ2 vs1) H' fun σ3 H5 => wipe σ3 vs1 = wipe σ2 vs1 ∧ tt1 σ3 H5 fun b H6 =>
    if b = true then te σ3 H6 fun y H7 => ∃ acc, H7 D = some (.lst acc) ∧ acc.length < sizeLine ∧ Nx1 (upd H7 D (.lst (acc ++ [y]))) else Nx1 H6)
theorem lc2_list (Pv : Nat → Hp → Prop) (h0 : Pv 0 (upd H1 D (.lst []))) (hl : ∀ i H, i ≤ xs.length → Pv i H → SqL K H a xs)
    (hs : ∀ i x H, xs[i]? = some x → Pv i H → g x (wipe σ vs) H fun σ2 H2 => wipe σ2 vs = wipe σ vs ∧ tt σ2 H2 fun b H3 => if b = true then InT D wi1 g1 tt1 te vs1 (Pv (i + 1)) σ2 H3 else Pv (i + 1) H3) (hd : ∀ H, Pv xs.length H → Qd H) :
    ∃ W : Nat → Nat → Hp → Prop, (∃ m, W 0 m (upd H1 D (.lst []))) ∧ ∀ i m H, W i m H →
      ((Itl K a).stop i H ∧ Qd H) ∨ ((Itl K a).go i H ∧ ∃ Nx : Hp → Prop, (∀ H', Nx H' → ∃ m', m' < m ∧ W (i + 1) m' H') ∧ ∀ x H', (Itl K a).yld i H x H' → g x (wipe σ vs) H' fun σ2 H2 => wipe σ2 vs = wipe σ vs ∧ tt σ2 H2 fun b H3 =>
        if b = true then InT D wi1 g1 tt1 te vs1 Nx σ2 H3 else Nx H3) := by
  refine ⟨fun i m H => m + i = xs.length ∧ Pv i H, ⟨xs.length, rfl, h0⟩, ?_⟩
  rintro i m H ⟨im, p⟩
  have q := hl i H (by omega) p
  by_cases hlt : i < xs.length
  · refine .inr ⟨⟨xs, xs[i], q, by simp [hlt]⟩, Pv (i + 1), fun H' p' => ⟨m - 1, by omega, by omega, p'⟩, fun x H' y => ?_⟩
    obtain ⟨e, y⟩ := y
    subst e
    exact hs i x _ (y xs q) p
  · have e : i = xs.length := by omega
    subst e
    exact .inl ⟨⟨xs, q, Nat.le_refl _⟩, hd H p⟩
theorem lc_in {σ2 : L2.St} {H4 : Hp} {Nx : Hp → Prop} (Pv : Nat → Hp → Prop) (h0 : Pv 0 H4) (hl : ∀ i H, i ≤ xs.length → Pv i H → SqL K H a xs)
    (hs : ∀ i x H, xs[i]? = some x → Pv i H → g1 x (wipe σ2 vs1) H fun σ3 H5 => wipe σ3 vs1 = wipe σ2 vs1 ∧ tt1 σ3 H5 fun b H6 =>
      if b = true then te σ3 H6 fun y H7 => ∃ acc, H7 D = some (.lst acc) ∧ acc.length < sizeLine ∧ Pv (i + 1) (upd H7 D (.lst (acc ++ [y]))) else Pv (i + 1) H6) (hd : ∀ H, Pv xs.length H → Nx H) :
    ∃ W1 : Nat → Nat → Hp → Prop, (∃ m, W1 0 m H4) ∧ ∀ j k H, W1 j k H →
      ((Itl K a).stop j H ∧ Nx H) ∨ ((Itl K a).go j H ∧ ∃ Nx1 : Hp → Prop, (∀ H', Nx1 H' → ∃ k', k' < k ∧ W1 (j + 1) k' H') ∧ ∀ x H', (Itl K a).yld j H x H' → g1 x (wipe σ2 vs1) H' fun σ3 H5 => wipe σ3 vs1 = wipe σ2 vs1 ∧ tt1 σ3 H5 fun b H6 =>
        if b = true then te σ3 H6 fun y H7 => ∃ acc, H7 D = some (.lst acc) ∧ acc.length < sizeLine ∧ Nx1 (upd H7 D (.lst (acc ++ [y]))) else Nx1 H6) := by
  refine ⟨fun i m H => m + i = xs.length ∧ Pv i H, ⟨xs.length, rfl, h0⟩, ?_⟩
  rintro i m H ⟨im, p⟩
  have q := hl i H (by omega) p
  by_cases hlt : i < xs.length
  · refine .inr ⟨⟨xs, xs[i], q, by simp [hlt]⟩, Pv (i + 1), fun H' p' => ⟨m - 1, by omega, by omega, p'⟩, fun x H' y => ?_⟩
    obtain ⟨e, y⟩ := y
    subst e
    exact hs i x _ (y xs q) p
  · have e : i = xs.length := by omega
    subst e
    exact .inl ⟨⟨xs, q, Nat.le_refl _⟩, hd H p⟩
end
end LT

namespace LT
open PySem PySem.Spec PyProof.Rows L2
/-! texts of numbers, of nodes, of lists of nodes -/
def dgS (n : Nat) : Str := Str.ofString (toString (n : Int))
theorem dg_tl (n : Nat) : TL.tl (dgS n) = TL.numL n := TL.tl_num n
theorem dg_inj {m n : Nat} (h : dgS m = dgS n) : m = n := TL.numL_inj (by rw [← dg_tl, ← dg_tl, h])
theorem dg_len {n k : Nat} (hk : 0 < k) (h : n < 10 ^ k) : (dgS n).length ≤ k := by rw [TL.len_tl, dg_tl]; exact TL.numL_len hk h
theorem dg_len1 (n : Nat) : 0 < (dgS n).length := by
  rw [TL.len_tl, dg_tl]
  exact List.length_pos_iff.mpr (TL.numL_ne n)
theorem dg_ascii (n : Nat) : Txt.isascii (dgS n) = true := by
  show (dgS n).cps.all (· < 128) = true
  rw [← Array.all_toList]
  refine List.all_eq_true.mpr fun c hc => decide_eq_true ?_
  have := TL.numL_digits n c (by rw [← dg_tl]; exact hc)
  omega
theorem dg_digit (n : Nat) : Txt.isdigit (dgS n) = true := by
  show (decide ((dgS n).length > 0) && (dgS n).cps.all Unicode.isDigit) = true
  rw [decide_eq_true (dg_len1 n), Bool.true_and, ← Array.all_toList]
  refine List.all_eq_true.mpr fun c hc => ?_
  have k : ∀ n : _root_.Fin 128, 48 ≤ n.val → n.val ≤ 57 → Unicode.isDigit n.val = true := by decide +kernel
  have := TL.numL_digits n c (by rw [← dg_tl]; exact hc)
  exact k ⟨c, by omega⟩ (by show 48 ≤ c; omega) (by show c ≤ 57; omega)
theorem num_head (n : Nat) (h : 1 ≤ n) : ∃ c l, TL.numL n = c :: l ∧ c ≠ 48 := by
  induction n using Nat.strongRecOn with
  | _ n ih =>
    by_cases z : n < 10
    · exact ⟨48 + n, [], TL.numL_lt z, by omega⟩
    · obtain ⟨c, l, e, k⟩ := ih (n / 10) (by omega) (by omega)
      refine ⟨c, l ++ [48 + n % 10], ?_, k⟩
      rw [TL.numL_step (by omega), e]
      rfl
theorem starts_zero {n : Nat} (h : Txt.startswith (dgS n) "0" = true) : n = 0 := by
  by_cases z : n = 0
  · exact z
  · exfalso
    obtain ⟨c, l, e, k⟩ := num_head n (by omega)
    have h2 : (decide (0 + ("0" : Str).length ≤ (dgS n).length) && Builtin.Str.subAt (dgS n) "0" 0) = true := h
    rw [Bool.and_eq_true, PySem.StrLaws.subAt_eq] at h2
    have h3 := h2.2
    have e2 : (dgS n).cps.toList = c :: l := by
      rw [← e, ← dg_tl]
    rw [e2] at h3
    have z1 : ("0" : Str).length = 1 := by decide +kernel
    have z2 : ("0" : Str).cps.toList = [48] := by decide +kernel
    have h4 : ([c] : List Nat) = [48] := by
      have := beq_iff_eq.mp h3
      rw [z1, z2] at this
      exact this
    exact k (List.cons.inj h4).1
/-- the text of a node -/
def nTx (y : Nat × Nat) : Str := dgS y.1 ++ "-" ++ dgS y.2
/-- the text of a list of nodes -/
def nTxs (l : List (Nat × Nat)) : Str := Txt.join ", " (l.map nTx)
theorem str_empty (x : Str) : Str.empty ++ x = x := TL.ext_tl (by rw [TL.tl_append]; rfl)
theorem tl_dash : TL.tl ("-" : Str) = [45] := by decide +kernel
theorem tl_comma : TL.tl (", " : Str) = [44, 32] := by decide +kernel
theorem nTx_tl (y : Nat × Nat) : TL.tl (nTx y) = TL.numL y.1 ++ [45] ++ TL.numL y.2 := by
  unfold nTx
  rw [TL.tl_append, TL.tl_append, dg_tl, dg_tl, tl_dash]
theorem nTx_free (y : Nat × Nat) : (44 : Nat) ∉ TL.tl (nTx y) := by
  rw [nTx_tl]
  intro h
  rcases List.mem_append.mp h with h | h
  · rcases List.mem_append.mp h with h | h
    · exact TL.numL_free (.inl (by decide)) h
    · exact absurd (List.mem_singleton.mp h) (by decide)
  · exact TL.numL_free (.inl (by decide)) h
theorem nTxs_split {l : List (Nat × Nat)} (h : l ≠ []) : Txt.split (nTxs l) ", " = l.map nTx :=
  TL.split_join tl_comma (by decide +kernel) (fun z => h (List.map_eq_nil_iff.mp z)) fun p hp => by
    obtain ⟨y, _, rfl⟩ := List.mem_map.mp hp
    exact nTx_free y
theorem nTx_part (y : Nat × Nat) : Txt.partition (nTx y) "-" = (dgS y.1, ("-" : Str), dgS y.2) :=
  TL.partition_app (y := "-") (a := dgS y.1) (b := dgS y.2) tl_dash (by rw [dg_tl]; exact TL.numL_free (.inl (by decide)))
theorem nTx_len {y : Nat × Nat} {k : Nat} (hk : 0 < k) (h1 : y.1 < 10 ^ k) (h2 : y.2 < 10 ^ k) : (nTx y).length ≤ 2 * k + 1 := by
  rw [TL.len_tl, nTx_tl, List.length_append, List.length_append]
  have a := TL.numL_len hk h1
  have b := TL.numL_len hk h2
  simp only [List.length_singleton]
  omega
theorem joinL_len (S : List Nat) (m : Nat) : ∀ l : List (List Nat), (∀ p ∈ l, p.length ≤ m) → (TL.joinL S l).length ≤ l.length * (m + S.length)
  | [], _ => Nat.zero_le _
  | [p], h => by
    show p.length ≤ 1 * (m + S.length)
    have := h p (List.mem_singleton_self _)
    omega
  | p :: q :: r, h => by
    show (p ++ (S ++ TL.joinL S (q :: r))).length ≤ (r.length + 1 + 1) * (m + S.length)
    have a := h p (List.mem_cons_self ..)
    have b := joinL_len S m (q :: r) fun z hz => h z (List.mem_cons_of_mem _ hz)
    have c : (q :: r).length = r.length + 1 := rfl
    rw [c] at b
    rw [List.length_append, List.length_append, Nat.succ_mul (r.length + 1)]
    omega
theorem nTxs_len {l : List (Nat × Nat)} (h : ∀ y ∈ l, y.1 ≤ 10 ^ 30 ∧ y.2 ≤ 10 ^ 30) : (nTxs l).length ≤ l.length * 65 := by
  have e : TL.tl (nTxs l) = TL.joinL (TL.tl ", ") ((l.map nTx).map TL.tl) := by
    unfold nTxs
    rw [TL.join_eq, TL.tl_join]
  rw [TL.len_tl, e, tl_comma]
  have d : (10 : Nat) ^ 30 < 10 ^ 31 := by decide
  have := joinL_len [44, 32] 63 ((l.map nTx).map TL.tl) (fun p hp => by
    obtain ⟨z, hz, rfl⟩ := List.mem_map.mp hp
    obtain ⟨y, hy, rfl⟩ := List.mem_map.mp hz
    rw [← TL.len_tl]
    have := h y hy
    exact nTx_len (k := 31) (by decide) (by omega) (by omega))
  rw [List.length_map, List.length_map] at this
  exact this
theorem nTx_ne (y : Nat × Nat) : 0 < (nTx y).length := by
  rw [TL.len_tl, nTx_tl, List.length_append, List.length_append]
  simp only [List.length_singleton]
  omega
theorem nTxs_ne {l : List (Nat × Nat)} (h : nTxs l = "") : l = [] := by
  cases l with
  | nil => rfl
  | cons y r =>
    exfalso
    have k := nTxs_split (l := y :: r) (by simp)
    rw [h] at k
    have e : Txt.split ("" : Str) ", " = [("" : Str)] := by decide +kernel
    rw [e] at k
    have k2 := (List.cons.inj k).1
    have := nTx_ne y
    rw [← k2] at this
    exact absurd this (by decide +kernel)
theorem nTxs_nil : nTxs [] = "" := by decide +kernel
end LT

namespace LT
open PySem PySem.Spec PyProof.Rows L2
theorem nTx_sum : ∀ l : List (Nat × Nat), (∀ y ∈ l, y.1 ≤ 10 ^ 30 ∧ y.2 ≤ 10 ^ 30) → ((l.map nTx).map (·.length)).sum ≤ l.length * 63 := by
  have d31 : (10 : Nat) ^ 30 < 10 ^ 31 := by decide
  intro l
  induction l with
  | nil => intro _; exact Nat.zero_le _
  | cons y l ih =>
    intro h
    have a := ih fun z hz => h z (List.mem_cons_of_mem _ hz)
    have b := h y List.mem_cons_self
    have c := nTx_len (y := y) (k := 31) (by decide) (by omega) (by omega)
    rw [List.map_cons, List.map_cons, List.sum_cons, List.length_cons]
    omega
section
variable {P : Program} {w : World} {K : PySem.W.Frag} {mg : Str → Option Value} {base : Heap}
theorem tn_nat37 (n b e : Nat) : tnV n (.int (b : Int)) (.int (e : Int)) = decide (isN n (b, e)) := by
  show decide (0 ≤ (b : Int) ∧ isN n ((b : Int).toNat, (e : Int).toNat)) = decide (isN n (b, e))
  rw [Int.toNat_natCast, Int.toNat_natCast]
  by_cases k : isN n (b, e)
  · rw [decide_eq_true k, decide_eq_true ⟨Int.natCast_nonneg _, k⟩]
  · rw [decide_eq_false k, decide_eq_false (fun z => k z.2)]
def spCheckNodesM : Sp := fun vs H Q _ => ∃ (n m : Nat) (p : Addr) (xs : List V) (S : List (Nat × Nat)), vs = [.int n, .ref p, .int 0, .int (m : Int)] ∧ 1 ≤ n ∧ n ≤ 10 ^ 30 ∧ H p = some (.lst xs) ∧ All2 (Nd H) xs S ∧ S.length ≤ m ∧ (∀ x ∈ S, isN n x) ∧ ∀ H', Same H H' → Q .non H'
theorem ok_check_nodesM {f g1 g2 : Addr} {fd d1 d2 : FuncData} {its : List Value} {dvs : List V} (F : FunT K "check_nodes" "check_nodes" sCheckNodes its dvs f fd) (GIsListOf : FnOk P w K mg base CX0 1 g1 d1 ["value", "least", "most"] spListOf) (AIsListOf : At K mg "is_list_of" g1 d1 ["value", "least", "most"])
    (GIsTreeNode : FnOk P w K mg base CX0 3 g2 d2 ["size", "value"] (spTreeV K)) (AIsTreeNode : At K mg "is_tree_node" g2 d2 ["size", "value"]) (z_enumerate : mg "enumerate" = none) : FnOk P w K mg base CX0 4 f fd ["size", "nodes", "least", "most"] spCheckNodesM := by
  refine F.ok scCheckNodes (fun vs H Q E h => ?_) (fun cdv A outer s H vs Q E hr h => ?_)
  · obtain ⟨_, _, _, _, _, rfl, _⟩ := h
    rfl
  obtain ⟨n, m, p, xs, S, rfl, n1, h30, hp, hx, lm, hS, q⟩ := h
  refine ⟨_, (pss_cons (ps_if (pt_not (pt_val (pe_call GIsListOf (hr.mono (by decide)) rfl AIsListOf.m AIsListOf.kp AIsListOf.b .nil pass0 (pa_cons (pv 1) (pa_cons (pv 2) (pa_cons (pv 3) pa_nil))))))
    (pss_one ps_never)
    pss_nil)
    (pss_one (ps_for PassesOwn.never rfl (pi_enum (by rfl) z_enumerate (pa_cons (pv 1) pa_nil)) (pg_tup (by rfl) (pgs_cons (pg_name (i := 4) scCheckNodes.nd rfl (Or.inl rfl)) (pgs_cons (pg_name (i := 5) scCheckNodes.nd rfl (Or.inl rfl)) pgs_nil)))
    (pss_one (ps_if (pt_not (pt_val (pe_call GIsTreeNode (hr.mono (by decide)) rfl AIsTreeNode.m AIsTreeNode.kp AIsTreeNode.b .nil pass0 (pa_cons (pv 0) (pa_cons (pv 5) pa_nil)))))
    (pss_one ps_never)
    pss_nil))))), ?_⟩
  have xl := hx.len
  refine ⟨_, rfl, _, rfl, _, rfl, p, xs, 0, m, rfl, hp, by omega, by omega, true, rfl, ?_⟩
  refine ⟨_, rfl, p, xs, rfl, SqL.of hp, ?_⟩
  refine for_enum (a := p) (xs := xs) (fun i σ H' => ∃ (v4 v5 : Option V), σ = [some (.int (n : Int)), some (.ref p), some (.int 0), some (.int (m : Int)), v4, v5] ∧ Same H H')
    ⟨none, none, rfl, Same.refl _⟩ (fun i σ H' _ ⟨_, _, _, sm⟩ => SqL.of (sm _ _ hp)) ?_ ?_
  · rintro i x σ H2 T hi ⟨v4, v5, rfl, sm⟩ nT
    obtain ⟨y, hyi, hy⟩ := hx.nth hi
    have sT := same_upd (o := .tup [.int ((i : Nat) : Int), x]) nT
    have hy2 := (hy.same sm).same sT
    obtain ⟨yp, rfl, hyp⟩ := id hy2
    refine ⟨T, _, rfl, SqT.of upd_same, rfl, _, _, rfl, _, _, rfl, rfl, ?_⟩
    refine ⟨_, rfl, _, rfl, n, _, true, rfl, n1, by omega, ?_, true, rfl, ?_⟩
    · have e : tnV n (.int (y.1 : Int)) (.int (y.2 : Int)) = true := by
        rw [tn_nat37]
        exact decide_eq_true (hS y (List.mem_of_getElem? hyi))
      exact e ▸ Ask.pair (n := n) hyp (.int _) (.int _)
    · exact ⟨_, _, rfl, sm.trans sT⟩
  · rintro σ H2 ⟨v4, v5, rfl, sm⟩
    exact q H2 sm
/-- the text of nodes -/
def spTextOf : Sp := fun vs H Q _ => ∃ (p : Addr) (xs : List V) (S : List (Nat × Nat)), vs = [.ref p] ∧ H p = some (.lst xs) ∧ All2 (Nd H) xs S ∧ S.length ≤ 5000 ∧ (∀ y ∈ S, y.1 ≤ 10 ^ 30 ∧ y.2 ≤ 10 ^ 30) ∧ ∀ H', Same H H' → Q (.str (nTxs S)) H'
theorem ok_text_of {f : Addr} {fd : FuncData} (F : Fun K "text_of" "text_of" sTextOf f fd) : FnOk P w K mg base CX0 1 f fd ["nodes"] spTextOf := by
  refine F.ok scTextOf (fun vs H Q E h => ?_) (fun cdv A outer s H vs Q E hr h => ?_)
  · obtain ⟨_, _, _, rfl, _⟩ := h
    rfl
  obtain ⟨p, xs, S, rfl, hp, hx, l5, hS, q⟩ := h
  refine ⟨_, (pss_one (ps_ret (pe_join pe_str (pe_lc (own := [("begin", 1), ("end", 2)]) rfl scTextOf.nd (pi_list (pv 0)) (blkOk_by (N := ["nodes", "begin", "end"]) (sc := defScope sTextOf) (by decide +kernel)) (fun _ _ _ _ _ => (pg_tupB (n := 2) rfl (pgs_cons (pg_name (i := 1) scTextOf.nd rfl (Or.inl rfl)) (pgs_cons (pg_name (i := 2) scTextOf.nd rfl (Or.inl rfl)) pgs_nil)))) (fun _ _ _ _ _ => pts_nil) (fun _ _ _ _ _ => (pe_joined (PJ.cons (pe_fmt (pv 1)) (PJ.cons pe_str (PJ.cons (pe_fmt (pv 2)) PJ.nil))))))))), ?_⟩
  have xl := hx.len
  have lg : ∀ m : Nat, m ≤ 10 ^ 30 → ((m : Int)).natAbs.log2 < 1920 := fun m hm => by
    show m.log2 < 1920
    by_cases z : m = 0
    · rw [z]; decide
    · exact Nat.lt_of_lt_of_le ((Nat.log2_lt (k := 100) z).mpr (Nat.lt_of_le_of_lt hm (by decide))) (by decide)
  have d31 : (10 : Nat) ^ 30 < 10 ^ 31 := by decide
  refine ⟨⟨_, rfl⟩, _, rfl, p, rfl, ⟨_, SqL.of hp⟩, fun D nD => ?_⟩
  refine lc_list (K := K) (a := p) (xs := xs) (te := fun σ H Q => tJs [tFmt (tVar 1), tC (V.str "-"), tFmt (tVar 2)] Str.empty σ H fun out H1 => Q (.str out) H1) (fun i H' => Same H H' ∧ H' D = some (.lst (((S.take i).map nTx).map V.str))) ⟨same_upd nD, upd_same⟩ (fun i H' _ ⟨k, _⟩ => SqL.of (k _ _ hp)) ?_ ?_
  · rintro i u H2 hi ⟨s2, hD⟩
    obtain ⟨y, hyi, hy⟩ := hx.nth hi
    obtain ⟨yp, rfl, hyp⟩ := hy.same s2
    have hb := hS y (List.mem_of_getElem? hyi)
    have l1 := dg_len (n := y.1) (k := 31) (by decide) (by omega)
    have l2 := dg_len (n := y.2) (k := 31) (by decide) (by omega)
    have z1 : ("-" : Str).length = 1 := by decide +kernel
    have ap : ∀ a b : Str, (a ++ b).length = a.length + b.length := fun a b => by rw [TL.len_tl, TL.tl_append, List.length_append, ← TL.len_tl, ← TL.len_tl]
    have sz : ∀ k : Nat, k ≤ 1000 → k ≤ sizeLine := fun k hk => by rw [sizeLine_eq]; omega
    refine ⟨yp, _, rfl, SqT.of hyp, rfl, _, _, rfl, _, _, rfl, rfl, rfl, ?_⟩
    refine ⟨_, rfl, .inr ⟨_, rfl, lg _ hb.1, _, rfl, ?_, _, rfl, ?_, _, rfl, .inr ⟨_, rfl, lg _ hb.2, _, rfl, ?_, ?_⟩⟩⟩
    · rw [str_empty]
      exact sz _ (Nat.le_trans l1 (by decide))
    · rw [str_empty, ap, z1]
      exact sz _ (by have : (dgS y.1).length ≤ 31 := l1; show (dgS y.1).length + 1 ≤ 1000; omega)
    · rw [str_empty, ap, ap, z1]
      exact sz _ (by show (dgS y.1).length + 1 + (dgS y.2).length ≤ 1000; omega)
    · have len : (((S.take i).map nTx).map V.str).length < sizeLine := by
        rw [List.length_map, List.length_map, List.length_take, sizeLine_eq]
        omega
      refine ⟨_, hD, len, ?_, ?_⟩
      · exact fun a o k => by rw [upd_ne (ne_of_none k nD)]; exact s2 _ _ k
      · rw [take_more hyi, List.map_append, List.map_append, str_empty]
        exact upd_same
  rintro H2 ⟨s2, hD⟩
  rw [xl, List.take_length] at hD
  refine ⟨_, D, S.map nTx, rfl, rfl, .inl (SqL.of hD), ?_, q _ s2⟩
  have a := nTx_sum S hS
  have z2 : (", " : Str).length = 2 := by decide +kernel
  rw [z2, List.length_map]
  omega
theorem ne_no37 {x y : V} (h : x = y) : V.bl (!decide (x = y)) = V.bl false := by rw [decide_eq_true h]; rfl
/-- the number that a word writes -/
def spNumberOf : Sp := fun vs H Q _ => ∃ n : Nat, vs = [.str (dgS n)] ∧ n < 10 ^ 100 ∧ Q (.int n) H
theorem ok_number_of {f : Addr} {fd : FuncData} {t : Tok} (F : Fun K "number_of" "number_of" sNumberOf f fd) (g_MOST_DIGITS : mg "MOST_DIGITS" = some (.int 100 t)) (z_len : mg "len" = none) (z_int : mg "int" = none) : FnOk P w K mg base CX0 1 f fd ["word"] spNumberOf := by
  refine F.ok scNumberOf (fun vs H Q E h => ?_) (fun cdv A outer s H vs Q E hr h => ?_)
  · obtain ⟨_, rfl, _⟩ := h
    rfl
  obtain ⟨n, rfl, hn, q⟩ := h
  refine ⟨_, (pss_cons (ps_if (PW.pt (pw_or (pt_not (pt_val (pe_m0 PySem.F.slot_str_isascii PySem.F.type_str_isascii mt_isascii (pv 0)))) (pw_or (pt_not (pt_val (pe_m0 PySem.F.slot_str_isdigit PySem.F.type_str_isdigit mt_isdigit (pv 0)))) (pw_or1 (pt_cmpR op_gt (pe_callB call_len_str (by rfl) z_len PySem.boot_len (pa_cons (pv 0) pa_nil)) (pe_glob (v := .int 100) rfl g_MOST_DIGITS ⟨_, rfl⟩) (nomark _))))))
    (pss_one (ps_ret pe_non))
    pss_nil)
    (pss_cons (ps_if (PW.pt (pw_and (pt_val (pe_m1 PySem.F.slot_str_startswith PySem.F.type_str_startswith mt_startswith (pv 0) pe_str)) (pw_and1 (pt_cmpR op_ne (pv 0) pe_str (nomark _)))))
    (pss_one (ps_ret pe_non))
    pss_nil)
    (pss_one (ps_ret (pe_callTy call_int_str (by rfl) z_int (by decide +kernel) (pa_cons (pv 0) pa_nil)))))), ?_⟩
  have l1 := dg_len (n := n) (k := 100) (by decide) hn
  refine ⟨_, rfl, ⟨_, rfl⟩, _, rfl, rfl, trivial, _, rfl, ?_⟩
  rw [dg_ascii]
  refine ⟨_, rfl, ⟨_, rfl⟩, _, rfl, rfl, trivial, _, rfl, ?_⟩
  rw [dg_digit]
  have hz : (dgS n).length ≤ sizeLine := by rw [sizeLine_eq]; omega
  refine ⟨_, rfl, _, rfl, hz, _, _, rfl, rfl, false, congrArg V.bl (decide_eq_false (by omega)), ?_⟩
  refine ⟨_, rfl, ⟨_, rfl⟩, _, _, rfl, rfl, _, rfl, ?_⟩
  by_cases hs : Txt.startswith (dgS n) "0" = true
  · have z := starts_zero hs
    subst z
    have e0 : dgS 0 = "0" := by decide +kernel
    rw [hs]
    refine ⟨_, rfl, rfl, false, ne_no37 (congrArg V.str e0), ?_⟩
    exact ⟨_, rfl, _, _, rfl, TL.int_num (n := 0) (by decide), by rw [e0]; decide +kernel, q⟩
  · rw [Bool.not_eq_true] at hs
    rw [hs]
    exact ⟨_, rfl, _, _, rfl, TL.int_num (n := n) (by have := TL.numL_len (k := 100) (by decide) hn; omega), by have : (dgS n).length ≤ 100 := l1; show (dgS n).length ≤ 640; omega, q⟩
def spShow : Sp := fun vs H Q _ => ∃ (n : Nat) (p : Addr) (xs : List V) (S : List (Nat × Nat)), vs = [.int n, .ref p] ∧ 1 ≤ n ∧ n ≤ 10 ^ 30 ∧ H p = some (.lst xs) ∧ All2 (Nd H) xs S ∧ S.length ≤ 4000 ∧ (∀ x ∈ S, isN n x) ∧ ∀ H', Same H H' → Q (.str (nTxs S)) H'
theorem ok_show_nodes {f g1 g2 g3 : Addr} {fd d1 d2 d3 : FuncData} {t : Tok} (F : Fun K "show_nodes" "show_nodes" sShowNodes f fd)
    (GCheckSize : FnOk P w K mg base CX0 3 g1 d1 ["size"] spCheckSize) (ACheckSize : At K mg "check_size" g1 d1 ["size"])
    (GCheckNodes : FnOk P w K mg base CX0 4 g2 d2 ["size", "nodes", "least", "most"] spCheckNodesM) (ACheckNodes : At K mg "check_nodes" g2 d2 ["size", "nodes", "least", "most"])
    (GTextOf : FnOk P w K mg base CX0 1 g3 d3 ["nodes"] spTextOf) (ATextOf : At K mg "text_of" g3 d3 ["nodes"]) (g_MOST_SHOWN : mg "MOST_SHOWN" = some (.int 4000 t)) : FnOk P w K mg base CX0 5 f fd ["size", "nodes"] spShow := by
  refine F.ok scShowNodes (fun vs H Q E h => ?_) (fun cdv A outer s H vs Q E hr h => ?_)
  · obtain ⟨_, _, _, _, rfl, _⟩ := h
    rfl
  obtain ⟨n, p, xs, S, rfl, n1, h30, hp, hx, l4, hS, q⟩ := h
  refine ⟨_, (pss_cons (ps_expr (pe_call GCheckSize (hr.mono (by decide)) rfl ACheckSize.m ACheckSize.kp ACheckSize.b .nil pass0 (pa_cons (pv 0) pa_nil)))
    (pss_cons (ps_expr (pe_call GCheckNodes (hr.mono (by decide)) rfl ACheckNodes.m ACheckNodes.kp ACheckNodes.b .nil pass0 (pa_cons (pv 0) (pa_cons (pv 1) (pa_cons pe_int (pa_cons (pe_glob (v := .int 4000) rfl g_MOST_SHOWN ⟨_, rfl⟩) pa_nil))))))
    (pss_one (ps_ret (pe_call GTextOf (hr.mono (by decide)) rfl ATextOf.m ATextOf.kp ATextOf.b .nil pass0 (pa_cons (pv 1) pa_nil)))))), ?_⟩
  have bd : ∀ y ∈ S, y.1 ≤ 10 ^ 30 ∧ y.2 ≤ 10 ^ 30 := fun y hy => by
    have := hS y hy
    have a := this.1
    have b := this.2.1
    exact ⟨by omega, by omega⟩
  refine ⟨_, rfl, _, rfl, by omega, by omega, ?_⟩
  refine ⟨_, rfl, _, rfl, n, 4000, p, xs, S, rfl, n1, h30, hp, hx, l4, hS, fun H1 s1 => ?_⟩
  exact ⟨_, rfl, p, xs, S, rfl, s1 _ _ hp, hx.mono fun v x k => k.same s1, by omega, bd, fun H2 s2 => q _ (s1.trans s2)⟩
/-- reading back -/
def spRead : Sp := fun vs H Q _ => ∃ (n : Nat) (S : List (Nat × Nat)), vs = [.int n, .str (nTxs S)] ∧ 1 ≤ n ∧ n ≤ 10 ^ 30 ∧ S.length ≤ 5000 ∧ (∀ x ∈ S, isN n x) ∧
  ∀ (H' : Hp) (r : Addr) (ys : List V), Same H H' → H r = none → H' r = some (.lst ys) → All2 (Nd H') ys S → Q (.ref r) H'
theorem ok_read_nodes {f g1 g2 g3 : Addr} {fd d1 d2 d3 : FuncData} (F : Fun K "read_nodes" "read_nodes" sReadNodes f fd)
    (GCheckSize : FnOk P w K mg base CX0 3 g1 d1 ["size"] spCheckSize) (ACheckSize : At K mg "check_size" g1 d1 ["size"])
    (GNumberOf : FnOk P w K mg base CX0 1 g2 d2 ["word"] spNumberOf) (ANumberOf : At K mg "number_of" g2 d2 ["word"])
    (GIsTreeNode : FnOk P w K mg base CX0 3 g3 d3 ["size", "value"] (spTreeV K)) (AIsTreeNode : At K mg "is_tree_node" g3 d3 ["size", "value"]) (z_enumerate : mg "enumerate" = none) (z_isinstance : mg "isinstance" = none) (z_str : mg "str" = none) : FnOk P w K mg base CX0 4 f fd ["size", "text"] spRead := by
  refine F.ok scReadNodes (fun vs H Q E h => ?_) (fun cdv A outer s H vs Q E hr h => ?_)
  · obtain ⟨_, _, rfl, _⟩ := h
    rfl
  obtain ⟨n, S, rfl, n1, h30, l5, hS, q⟩ := h
  refine ⟨_, (pss_cons (ps_expr (pe_call GCheckSize (hr.mono (by decide)) rfl ACheckSize.m ACheckSize.kp ACheckSize.b .nil pass0 (pa_cons (pv 0) pa_nil)))
    (pss_cons (ps_if (pt_not (pt_val (pe_callB call_isi (by rfl) z_isinstance (by decide +kernel) (pa_cons (pv 1) (pa_cons (pe_bltn (v := .ty "str") (u := .type "str") (by rfl) z_str (by decide +kernel) rfl) pa_nil)))))
    (pss_one ps_never)
    pss_nil)
    (pss_cons (ps_if (pt_cmpR op_eq (pv 1) pe_str (nomark _))
    (pss_one (ps_ret (pe_lst pa_nil)))
    pss_nil)
    (pss_cons (ps_set (i := 2) scReadNodes.nd rfl (Or.inl rfl) (pe_lst pa_nil))
    (pss_cons (ps_for PassesOwn.never rfl (pi_enum (by rfl) z_enumerate (pa_cons (pe_split (pv 1) pe_str) pa_nil)) (pg_tup (by rfl) (pgs_cons (pg_name (i := 3) scReadNodes.nd rfl (Or.inl rfl)) (pgs_cons (pg_name (i := 4) scReadNodes.nd rfl (Or.inl rfl)) pgs_nil)))
    (pss_cons (ps_asg (pe_partition (pv 4) pe_str) (pg_tup (by rfl) (pgs_cons (pg_name (i := 5) scReadNodes.nd rfl (Or.inl rfl)) (pgs_cons (pg_name (i := 6) scReadNodes.nd rfl (Or.inl rfl)) (pgs_cons (pg_name (i := 7) scReadNodes.nd rfl (Or.inl rfl)) pgs_nil)))))
    (pss_cons (ps_set (i := 8) scReadNodes.nd rfl (Or.inl rfl) (pe_tup (pa_cons (pe_call GNumberOf (hr.mono (by decide)) rfl ANumberOf.m ANumberOf.kp ANumberOf.b .nil pass0 (pa_cons (pv 5) pa_nil)) (pa_cons (pe_call GNumberOf (hr.mono (by decide)) rfl ANumberOf.m ANumberOf.kp ANumberOf.b .nil pass0 (pa_cons (pv 7) pa_nil)) pa_nil))))
    (pss_cons (ps_if (pt_not (pt_val (pe_call GIsTreeNode (hr.mono (by decide)) rfl AIsTreeNode.m AIsTreeNode.kp AIsTreeNode.b .nil pass0 (pa_cons (pv 0) (pa_cons (pv 8) pa_nil)))))
    (pss_one ps_never)
    pss_nil)
    (pss_one (ps_expr (pe_bm PySem.F.plainAttrs_list PySem.F.slot_list_append PySem.F.type_list_append mt_append (pv 2) (pa_cons (pv 8) pa_nil))))))))
    (pss_one (ps_ret (pv 2)))))))), ?_⟩
  refine ⟨_, rfl, _, rfl, by omega, by omega, ?_⟩
  refine ⟨_, rfl, _, _, _, _, true, rfl, .ty "str", .base (.str _), kit_ty (by decide +kernel), true, rfl, ?_⟩
  by_cases he : S = []
  · subst he
    have e0 : nTxs [] = "" := nTxs_nil
    refine ⟨_, rfl, rfl, true, congrArg V.bl (decide_eq_true (congrArg V.str e0)), Nat.zero_le _, fun r nr => ?_⟩
    exact q _ r [] (same_upd nr) nr upd_same .nil
  refine ⟨_, rfl, rfl, false, congrArg V.bl (decide_eq_false fun z => he (nTxs_ne (V.str.inj z))), ?_⟩
  have bd : ∀ y ∈ S, y.1 ≤ 10 ^ 30 ∧ y.2 ≤ 10 ^ 30 := fun y hy => by
    have := hS y hy
    have a := this.1
    have b := this.2.1
    exact ⟨by omega, by omega⟩
  refine ⟨Nat.zero_le _, fun r nr => ?_⟩
  have w1 := same_upd (o := .lst []) nr
  have hr1 := upd_same (H := H) (a := r) (o := .lst [])
  generalize upd H r (.lst []) = H1 at w1 hr1 ⊢
  have tl := nTxs_len bd
  refine ⟨_, rfl, ⟨_, rfl⟩, _, _, rfl, rfl, by decide +kernel, by rw [sizeLine_eq]; omega, fun p np => ?_⟩
  rw [nTxs_split he]
  have w2 := same_upd (o := .lst ((S.map nTx).map V.str)) np
  have hp2 := upd_same (H := H1) (a := p) (o := .lst ((S.map nTx).map V.str))
  have hr2 := w2 _ _ hr1
  have w12 := w1.trans w2
  generalize upd H1 p (.lst ((S.map nTx).map V.str)) = H2 at hp2 hr2 w12 ⊢
  have pr : p ≠ r := fun z => by rw [z, hr1] at np; cases np
  have xl : ((S.map nTx).map V.str).length = S.length := by rw [List.length_map, List.length_map]
  have two : 2 ≤ sizeLine := by decide
  refine ⟨p, _, rfl, SqL.of hp2, ?_⟩
  refine for_enum (a := p) (xs := (S.map nTx).map V.str) (fun i σ H' => ∃ (v3 v4 v5 v6 v7 v8 : Option V) (ys : List V), σ = [some (.int (n : Int)), some (.str (nTxs S)), some (.ref r), v3, v4, v5, v6, v7, v8] ∧ Same H H' ∧ H' p = some (.lst ((S.map nTx).map V.str)) ∧ H' r = some (.lst ys) ∧ All2 (Nd H') ys (S.take i))
    ⟨none, none, none, none, none, none, [], rfl, w12, hp2, hr2, .nil⟩ (fun i σ H' _ ⟨_, _, _, _, _, _, _, _, _, e, _⟩ => SqL.of e) ?_ ?_
  · rintro i x σ H3 T hi ⟨v3, v4, v5, v6, v7, v8, ys, rfl, sm, hp3, hr3, hys⟩ nT
    obtain ⟨y, hyi, rfl⟩ : ∃ y, S[i]? = some y ∧ x = V.str (nTx y) := by
      rw [List.getElem?_map, List.getElem?_map] at hi
      cases e : S[i]? with
      | none => rw [e] at hi; cases hi
      | some y => rw [e] at hi; exact ⟨y, rfl, (Option.some.inj hi).symm⟩
    have hb := bd y (List.mem_of_getElem? hyi)
    have d31 : (10 : Nat) ^ 30 < 10 ^ 31 := by decide
    have d100 : (10 : Nat) ^ 30 < 10 ^ 100 := by decide
    have ln := nTx_len (y := y) (k := 31) (by decide) (by omega) (by omega)
    have sT := same_upd (o := .tup [.int ((i : Nat) : Int), .str (nTx y)]) nT
    have hT := upd_same (H := H3) (a := T) (o := .tup [.int ((i : Nat) : Int), .str (nTx y)])
    have hr4 := sT _ _ hr3
    have hp4 := sT _ _ hp3
    have sm4 := sm.trans sT
    have hys4 := hys.mono fun v x (k : Nd H3 v x) => k.same sT
    generalize upd H3 T (.tup [.int ((i : Nat) : Int), .str (nTx y)]) = H4 at hT hr4 hp4 sm4 hys4 ⊢
    refine ⟨T, _, rfl, SqT.of hT, rfl, _, _, rfl, _, _, rfl, rfl, ?_⟩
    refine ⟨_, rfl, ⟨_, rfl⟩, _, _, rfl, rfl, by decide +kernel, by rw [sizeLine_eq]; omega, fun t3 nt3 => ?_⟩
    rw [nTx_part]
    have s3 := same_upd (o := .tup [.str (dgS y.1), .str "-", .str (dgS y.2)]) nt3
    refine ⟨t3, _, rfl, SqT.of upd_same, rfl, _, _, rfl, _, _, rfl, _, _, rfl, rfl, ?_⟩
    have hr5 := s3 _ _ hr4
    have hp5 := s3 _ _ hp4
    have sm5 := sm4.trans s3
    have hys5 := hys4.mono fun v x (k : Nd H4 v x) => k.same s3
    generalize upd H4 t3 (.tup [.str (dgS y.1), .str "-", .str (dgS y.2)]) = H5 at hr5 hp5 sm5 hys5 ⊢
    refine ⟨_, rfl, y.1, rfl, by omega, _, rfl, y.2, rfl, by omega, two, fun t4 nt4 => ?_⟩
    have s4 := same_upd (o := .tup [.int (y.1 : Int), .int (y.2 : Int)]) nt4
    have h4 := upd_same (H := H5) (a := t4) (o := .tup [.int (y.1 : Int), .int (y.2 : Int)])
    have hr6 := s4 _ _ hr5
    have hp6 := s4 _ _ hp5
    have sm6 := sm5.trans s4
    have hys6 := hys5.mono fun v x (k : Nd H5 v x) => k.same s4
    generalize upd H5 t4 (.tup [.int (y.1 : Int), .int (y.2 : Int)]) = H6 at h4 hr6 hp6 sm6 hys6 ⊢
    refine ⟨_, rfl, _, rfl, n, _, true, rfl, n1, Nat.le_trans h30 (by decide), ?_, true, rfl, ?_⟩
    · have e : tnV n (.int (y.1 : Int)) (.int (y.2 : Int)) = true := by
        rw [tn_nat37]
        exact decide_eq_true (hS y (List.mem_of_getElem? hyi))
      exact e ▸ Ask.pair (n := n) h4 (.int _) (.int _)
    have yl := hys6.len
    rw [List.length_take] at yl
    refine ⟨_, rfl, .inl ⟨rfl, _, SqL.of hr6⟩, _, rfl, r, ys, _, rfl, rfl, hr6, by rw [sizeLine_eq]; omega, ?_⟩
    have tr4 : t4 ≠ r := ne_of h4 hr6 (fun z => by cases z)
    have nr6 : ∀ (a : Addr) (o : HO), H a = some o → a ≠ r := fun a o k => ne_of_none k nr
    refine ⟨_, _, _, _, _, _, _, rfl, fun a o k => by rw [upd_ne (nr6 a o k)]; exact sm6 _ _ k, by rw [upd_ne pr]; exact hp6, upd_same, ?_⟩
    rw [take_more hyi]
    refine (hys6.mono fun v x (k : Nd H6 v x) => k.upd hr6).app (.cons ⟨t4, rfl, by rw [upd_ne tr4]; exact h4⟩ .nil)
  · rintro σ H3 ⟨v3, v4, v5, v6, v7, v8, ys, rfl, sm, hp3, hr3, hys⟩
    rw [xl, List.take_length] at hys
    exact ⟨_, rfl, q _ r ys sm nr hr3 hys⟩
end
end LT

namespace LT
open PySem PySem.Spec PyProof.Rows L2
/-! ### what is shown fits -/
def small (x : Nat × Nat) : Prop := x.1 ≤ 1000 ∧ x.2 ≤ 1000
theorem int_short {a : Nat} (h : a ≤ 1000000) : (PyData.shown (.int ((a : Nat) : Int))).length ≤ 13 := PyData.shown_int_le (by show a < 10 ^ 12; omega)
theorem int_weight {a : Nat} (h : a ≤ 1000000) : PyData.weight (.int ((a : Nat) : Int)) ≤ 20 := by
  show (if ((a : Nat) : Int) == 0 then 0 else ((a : Nat) : Int).natAbs.log2 + 1) ≤ 20
  split
  · omega
  · rename_i z
    have : ((a : Nat) : Int).natAbs = a := rfl
    rw [this]
    have a0 : a ≠ 0 := fun e => z (by subst e; rfl)
    have := (Nat.log2_lt (k := 20) a0).mpr (by omega)
    omega
theorem nds_short : ∀ l : List (Nat × Nat), (∀ x ∈ l, small x) → PyData.intsShortAll 13 (l.map nd) = true
  | [], _ => rfl
  | x :: l, h => by
    have hx := h x List.mem_cons_self
    simp only [List.map_cons, PyData.intsShortAll, nd, PyData.intsShort, Bool.and_eq_true, decide_eq_true_eq, Bool.and_true]
    exact ⟨⟨int_short (by have := hx.1; omega), int_short (by have := hx.2; omega)⟩, nds_short l fun y hy => h y (List.mem_cons_of_mem _ hy)⟩
theorem nds_weight : ∀ l : List (Nat × Nat), (∀ x ∈ l, small x) → PyData.weightAll (l.map nd) ≤ 43 * l.length
  | [], _ => Nat.le_refl _
  | x :: l, h => by
    have hx := h x List.mem_cons_self
    have ih := nds_weight l fun y hy => h y (List.mem_cons_of_mem _ hy)
    have w1 := int_weight (a := x.1) (by have := hx.1; omega)
    have w2 := int_weight (a := x.2) (by have := hx.2; omega)
    have e : PyData.weightAll ((x :: l).map nd) = (PyData.weight (.int ((x.1 : Nat) : Int)) + 1 + (PyData.weight (.int ((x.2 : Nat) : Int)) + 1 + 0)) + 1 + PyData.weightAll (l.map nd) := by
      simp only [List.map_cons, PyData.weightAll, nd, PyData.weight]
    rw [e, List.length_cons]
    omega
theorem nds_fits (l : List (Nat × Nat)) (h : ∀ x ∈ l, small x) (hl : l.length ≤ 1000) : (PyData.list (l.map nd)).shown.length ≤ sizeLine := by
  have w := nds_weight l h
  refine PyData.shown_fits (B := 13) (by decide) (by decide) (PyData.leavesShort_of_canLay0 13 _ ?_ ?_) ?_
  · simp only [PyData.canLay0]
    exact nds_lay l
  · simp only [PyData.intsShort]
    exact nds_short l h
  · show PyData.weightAll (l.map nd) ≤ 2 ^ 20
    omega
theorem nds_showable : ∀ l : List (Nat × Nat), (∀ x ∈ l, small x) → PyData.showableAll (l.map nd) = true
  | [], _ => rfl
  | x :: l, h => by
    have hx := h x List.mem_cons_self
    simp only [List.map_cons, PyData.showableAll, nd, PyData.showable, Bool.and_eq_true, Bool.and_true]
    exact ⟨⟨decide_eq_true (Nat.lt_of_le_of_lt (Nat.log2_le_self _) (by have := hx.1; show ((x.1 : Nat) : Int).natAbs < 1920; omega)), decide_eq_true (Nat.lt_of_le_of_lt (Nat.log2_le_self _) (by have := hx.2; show ((x.2 : Nat) : Int).natAbs < 1920; omega))⟩, nds_showable l fun y hy => h y (List.mem_cons_of_mem _ hy)⟩
def nats (l : List Nat) : List PyData := l.map fun a => .int ((a : Nat) : Int)
theorem nats_short : ∀ l : List Nat, (∀ x ∈ l, x ≤ 1000) → PyData.intsShortAll 13 (nats l) = true
  | [], _ => rfl
  | x :: l, h => by
    have hx := h x List.mem_cons_self
    simp only [nats, List.map_cons, PyData.intsShortAll, PyData.intsShort, Bool.and_eq_true, decide_eq_true_eq]
    exact ⟨int_short (by omega), nats_short l fun y hy => h y (List.mem_cons_of_mem _ hy)⟩
theorem nats_weight : ∀ l : List Nat, (∀ x ∈ l, x ≤ 1000) → PyData.weightAll (nats l) ≤ 21 * l.length
  | [], _ => Nat.le_refl _
  | x :: l, h => by
    have hx := h x List.mem_cons_self
    have ih := nats_weight l fun y hy => h y (List.mem_cons_of_mem _ hy)
    have w1 := int_weight (a := x) (by omega)
    have e : PyData.weightAll (nats (x :: l)) = PyData.weight (.int ((x : Nat) : Int)) + 1 + PyData.weightAll (nats l) := by
      simp only [nats, List.map_cons, PyData.weightAll]
    rw [e, List.length_cons]
    omega
theorem nats_lay (l : List Nat) : PyData.canLayAll0 (nats l) = true := by
  unfold nats
  have := ints_lay (l.map fun a => ((a : Nat) : Int))
  rw [List.map_map] at this
  exact this
theorem nats_shaped (l : List Nat) : SeqAt.shaped (.list (nats l)) = true := by
  have := ints_shaped (l.map fun a => ((a : Nat) : Int))
  rw [List.map_map] at this
  exact this
theorem nats_dp {K : PySem.W.Frag} {H : Hp} (l : List Nat) : DpAll K H (l.map fun a => V.int ((a : Nat) : Int)) (nats l) := by
  have := ints_dp (K := K) (H := H) (l.map fun a => ((a : Nat) : Int))
  rw [List.map_map, List.map_map] at this
  exact this
theorem nats_fits (l : List Nat) (h : ∀ x ∈ l, x ≤ 1000) (hl : l.length ≤ 1000) : (PyData.list (nats l)).shown.length ≤ sizeLine := by
  have w := nats_weight l h
  refine PyData.shown_fits (B := 13) (by decide) (by decide) (PyData.leavesShort_of_canLay0 13 _ ?_ ?_) ?_
  · simp only [PyData.canLay0]
    exact nats_lay l
  · simp only [PyData.intsShort]
    exact nats_short l h
  · show PyData.weightAll (nats l) ≤ 2 ^ 20
    omega
theorem nats_showable : ∀ l : List Nat, (∀ x ∈ l, x ≤ 1000) → PyData.showableAll (nats l) = true
  | [], _ => rfl
  | x :: l, h => by
    have hx := h x List.mem_cons_self
    simp only [nats, List.map_cons, PyData.showableAll, PyData.showable, Bool.and_eq_true]
    exact ⟨decide_eq_true (Nat.lt_of_le_of_lt (Nat.log2_le_self _) (by show ((x : Nat) : Int).natAbs < 1920; omega)), nats_showable l fun y hy => h y (List.mem_cons_of_mem _ hy)⟩
/-- a whole number and a pair of them -/
def numPair (a b c : Nat) : PyData := .list [.int ((a : Nat) : Int), .tuple [.int ((b : Nat) : Int), .int ((c : Nat) : Int)]]
theorem numPair_shaped (a b c : Nat) : SeqAt.shaped (numPair a b c) = true := by
  show (PyData.canLay0 _ && decide (PyData.depth _ ≤ 64)) = true
  simp [numPair, PyData.canLay0, PyData.canLayAll0, PyData.depth, PyData.depthAll]
theorem numPair_showable {a b c : Nat} (h1 : a ≤ 1000000) (h2 : b ≤ 1000) (h3 : c ≤ 1000) : (numPair a b c).showable = true := by
  simp only [numPair, PyData.showable, PyData.showableAll, Bool.and_eq_true, Bool.and_true]
  have big : ∀ x : Nat, x ≤ 1000000 → decide (((x : Nat) : Int).natAbs.log2 < 1920) = true := fun x hx => decide_eq_true (by
    show x.log2 < 1920
    by_cases z : x = 0
    · subst z; decide
    · have := (Nat.log2_lt (k := 20) z).mpr (by omega)
      omega)
  exact ⟨big a h1, big b (by omega), big c (by omega)⟩
theorem numPair_fits {a b c : Nat} (h1 : a ≤ 1000000) (h2 : b ≤ 1000) (h3 : c ≤ 1000) : (numPair a b c).shown.length ≤ sizeLine := by
  have w1 := int_weight h1
  have w2 := int_weight (a := b) (by omega)
  have w3 := int_weight (a := c) (by omega)
  refine PyData.shown_fits (B := 13) (by decide) (by decide) (PyData.leavesShort_of_canLay0 13 _ ?_ ?_) ?_
  · simp [numPair, PyData.canLay0, PyData.canLayAll0]
  · simp only [numPair, PyData.intsShort, PyData.intsShortAll, Bool.and_eq_true, decide_eq_true_eq, Bool.and_true]
    exact ⟨int_short h1, int_short (by omega), int_short (by omega)⟩
  · have e : (numPair a b c).weight = PyData.weight (.int ((a : Nat) : Int)) + 1 + ((PyData.weight (.int ((b : Nat) : Int)) + 1 + (PyData.weight (.int ((c : Nat) : Int)) + 1 + 0)) + 1 + 0) := by
      simp only [numPair, PyData.weight, PyData.weightAll]
    rw [e]
    omega
/-! ### repr of single values -/
def reprS : V → Str
  | .int i => toString i
  | .bl b => if b then "True" else "False"
  | _ => "None"
def reprOk : V → Prop
  | .int i => i.natAbs.log2 < 1920
  | .bl _ => True
  | .non => True
  | _ => False
theorem call_reprS {X : Cx} : CallR X (.builtin "repr") (fun xs H Q => ∃ v, xs = [v] ∧ reprOk v ∧ Q (.str (reprS v)) H) := by
  intro pins s σ H xs us Q I r h
  obtain ⟨v, rfl, ok, q⟩ := h
  cases v with
  | int i =>
    obtain ⟨u, rfl, t, rfl⟩ := vals1 r
    exact PySem.P.repr_of_int ok ⟨.str _, H, I.tok _, ⟨_, rfl⟩, q⟩
  | bl b =>
    obtain ⟨u, rfl, e⟩ := vals1 r
    cases (show u = Value.bool b from e)
    exact PySem.P.repr_of_bool ⟨.str _, H, I.tok _, ⟨_, rfl⟩, q⟩
  | non =>
    obtain ⟨u, rfl, e⟩ := vals1 r
    cases (show u = Value.none from e)
    exact PySem.P.repr_of_none ⟨.str _, H, I.tok _, ⟨_, rfl⟩, q⟩
  | str _ => exact ok.elim
  | byt _ => exact ok.elim
  | flt _ => exact ok.elim
  | ref _ => exact ok.elim
  | ty _ => exact ok.elim
end LT

namespace LT
open PySem PySem.Spec PyProof.Rows L2
theorem Pl.same {K : PySem.W.Frag} {H H' : Hp} {v : V} {t : String} (h : Pl K H v t) (s : Same H H') : Pl K H' v t := by
  cases h with
  | non => exact .non
  | bl b => exact .bl b
  | int i => exact .int i
  | str x => exact .str x
  | lst e => exact .lst (s _ _ e)
  | tup e => exact .tup (s _ _ e)
  | dict e => exact .dict (s _ _ e)
theorem Ask.same {K : PySem.W.Frag} {H H' : Hp} {n : Nat} {v : V} {r : Bool} (h : Ask K H n v r) (s : Same H H') : Ask K H' n v r := by
  cases h with
  | kind h t => exact .kind (h.same s) t
  | long h l k => exact .long (s _ _ h) l k
  | pair h p q => exact .pair (s _ _ h) (p.same s) (q.same s)
/-- all of a list are no nodes -/
def NoNd (K : PySem.W.Frag) (H : Hp) (n : Nat) (l : List V) : Prop := ∀ v ∈ l, Ask K H n v false
theorem NoNd.same {K : PySem.W.Frag} {H H' : Hp} {n : Nat} {l : List V} (h : NoNd K H n l) (s : Same H H') : NoNd K H' n l := fun v hv => (h v hv).same s
theorem NoNd.nil {K : PySem.W.Frag} {H : Hp} {n : Nat} : NoNd K H n [] := fun _ h => by cases h
theorem NoNd.put {K : PySem.W.Frag} {H : Hp} {n : Nat} {l : List V} {v : V} (h : NoNd K H n l) (a : Ask K H n v false) : NoNd K H n (l ++ [v]) := fun u hu => by
  rcases List.mem_append.mp hu with k | k
  · exact h u k
  · rw [List.mem_singleton] at k
    rw [k]
    exact a
theorem NoNd.lst {K : PySem.W.Frag} {H : Hp} {n : Nat} {l : List V} {p : Addr} {xs : List V} (h : NoNd K H n l) (np : H p = none) : NoNd K (upd H p (.lst xs)) n (l ++ [.ref p]) :=
  NoNd.put (h.same (same_upd np)) (.kind (.lst upd_same) (by decide))
theorem NoNd.dict {K : PySem.W.Frag} {H : Hp} {n : Nat} {l : List V} {p : Addr} {kvs : List (Key × V)} (h : NoNd K H n l) (np : H p = none) : NoNd K (upd H p (.dK kvs)) n (l ++ [.ref p]) :=
  NoNd.put (h.same (same_upd np)) (.kind (.dict upd_same) (by decide))
theorem NoNd.long {K : PySem.W.Frag} {H : Hp} {n : Nat} {l : List V} {p : Addr} {xs : List V} (h : NoNd K H n l) (np : H p = none) (hl : xs.length ≠ 2) (hk : xs.length ≤ 1000) : NoNd K (upd H p (.tup xs)) n (l ++ [.ref p]) :=
  NoNd.put (h.same (same_upd np)) (.long upd_same hl hk)
theorem NoNd.pair {K : PySem.W.Frag} {H : Hp} {n : Nat} {l : List V} {p : Addr} {v1 v2 : V} {t1 t2 : String} (h : NoNd K H n l) (np : H p = none) (p1 : ∀ H, Pl K H v1 t1) (p2 : ∀ H, Pl K H v2 t2) (e : tnV n v1 v2 = false) : NoNd K (upd H p (.tup [v1, v2])) n (l ++ [.ref p]) := by
  refine NoNd.put (h.same (same_upd np)) ?_
  rw [← e]
  exact .pair upd_same (p1 _) (p2 _)
end LT

namespace LT
open PySem PySem.Spec PyProof.Rows L2
/-- a text and a truth -/
def Sb (H : Hp) (v : V) (x : Str × Bool) : Prop := ∃ p, v = .ref p ∧ H p = some (.tup [.str x.1, .bl x.2])
theorem Sb.same {H H' : Hp} {v : V} {x : Str × Bool} (h : Sb H v x) (s : Same H H') : Sb H' v x := by
  obtain ⟨p, e, q⟩ := h
  exact ⟨p, e, s _ _ q⟩
theorem Sb.upd {H : Hp} {v : V} {x : Str × Bool} {s : Addr} {xs : List V} {o : HO} (h : Sb H v x) (hs : H s = some (.lst xs)) : Sb (upd H s o) v x := by
  obtain ⟨p, e, q⟩ := h
  exact ⟨p, e, by rw [upd_ne (ne_of q hs (by intro z; cases z))]; exact q⟩
structure GF (mg : Str → Option Value) (x : Str) (C : Addr) : Prop where
  g : mg x = some (.ref C)
/-- an instance of the class at C is asked for each of the classes -/
def Kit (K : PySem.W.Frag) (C : Addr) : List Addr → List Bool → Prop
  | [], [] => True
  | D :: Ds, b :: bs => PySem.W.kitOne K (.ref C) (.ref D) = some b ∧ Kit K C Ds bs
  | _, _ => False
/-- a list at S that has grown, all else as it was -/
structure Cl (H J : Hp) (S : Addr) (L : List (Str × Bool)) : Prop where
  sm : Same H J
  fr : H S = none
  at_ : ∃ xs, J S = some (.lst xs) ∧ All2 (Sb J) xs L
theorem Cl.put {H J : Hp} {S t : Addr} {L : List (Str × Bool)} {xs : List V} {nm : Str} {b : Bool} (c : Cl H J S L) (hs : J S = some (.lst xs)) (nt : J t = none) :
    Cl H (upd (upd J t (.tup [.str nm, .bl b])) S (.lst (xs ++ [.ref t]))) S (L ++ [(nm, b)]) := by
  obtain ⟨ys, h1, h2⟩ := c.at_
  rw [hs] at h1
  cases h1
  have s1 := same_upd (H := J) (o := .tup [.str nm, .bl b]) nt
  have tS : t ≠ S := fun z => by rw [z, hs] at nt; cases nt
  have hs1 := s1 _ _ hs
  refine ⟨fun a o k => ?_, c.fr, _, upd_same, ?_⟩
  · have aS : a ≠ S := fun z => by rw [z, c.fr] at k; cases k
    rw [upd_ne aS]
    exact s1 _ _ (c.sm _ _ k)
  · exact (h2.mono fun v x k => (k.same s1).upd hs1).app (.cons ⟨t, rfl, by rw [upd_ne tS]; exact upd_same⟩ .nil)
theorem Cl.len {H J : Hp} {S : Addr} {L : List (Str × Bool)} {xs : List V} (c : Cl H J S L) (hs : J S = some (.lst xs)) : xs.length = L.length := by
  obtain ⟨ys, h1, h2⟩ := c.at_
  rw [hs] at h1
  cases h1
  exact h2.len
def clsNames : List Str := ["InvalidSpans", "InvalidNodes", "InvalidBounds", "InvalidText", "OverBudget", "InvalidSize", "InvalidEntry", "InvalidNode", "InvalidSpan", "InvalidNumber", "InvalidHeight", "InvalidBudget", "InvalidOperation", "Nothing", "InvalidCommand"]
/-- the word of an error: its name, and its field if it has one -/
def Wd (K : PySem.W.Frag) (C : Addr) (fs : Option (List (Str × V))) (nm wd : Str) : Prop :=
  (nm ≠ "InvalidSpans" ∧ nm ≠ "InvalidNodes" ∧ nm ≠ "InvalidBounds" ∧ nm ≠ "InvalidText" ∧ nm ≠ "OverBudget" ∧ nm ++ ("" : Str) = nm ∧ wd = nm) ∨
  ∃ (l : List (Str × V)) (y : V), fs = some l ∧ XfC K C ∧ reprOk y ∧ (reprS y).length ≤ 100 ∧
    ((((nm = "InvalidSpans" ∨ nm = "InvalidNodes" ∨ nm = "InvalidBounds") ∧ PySem.W.findIn K (.ref C) "item" = some none ∧ l.lookup ("item" : Str) = some y) ∧ wd = nm ++ (" " : Str) ++ reprS y) ∨
     ((nm = "InvalidText" ∧ PySem.W.findIn K (.ref C) "part" = some none ∧ l.lookup ("part" : Str) = some y) ∧ wd = ("InvalidText " : Str) ++ reprS y) ∨
     ((nm = "OverBudget" ∧ PySem.W.findIn K (.ref C) "count" = some none ∧ l.lookup ("count" : Str) = some y) ∧ wd = nm ++ ((" " : Str) ++ reprS y)))
section
variable {P : Program} {w : World} {K : PySem.W.Frag} {mg : Str → Option Value} {base : Heap} {CInvalidSpans CInvalidNodes CInvalidBounds CInvalidText COverBudget CInvalidSize CInvalidEntry CInvalidNode CInvalidSpan CInvalidNumber CInvalidHeight CInvalidBudget CInvalidOperation CNothing CInvalidCommand : Addr}
def spClass (K : PySem.W.Frag) (Cs : List Addr) : Sp := fun vs H Q _ => ∃ (a C : Addr) (fs : Option (List (Str × V))) (bs : List Bool) (nm wd : Str), vs = [.ref a] ∧ Exc H a C fs ∧ ExcC K C ∧ Kit K C Cs bs ∧ PySem.W.kitOne K (.ref C) (.type "ValueError") = some true ∧
  ((clsNames.zip bs).filter fun x => x.2).map (fun x => x.1) = [nm] ∧ nm.length ≤ 100 ∧ Wd K C fs nm wd ∧ ∀ H', Same H H' → Q (.str wd) H'
theorem ok_law_class {f : Addr} {fd : FuncData} (F : Fun K "_law_class" "_law_class" sLawClass f fd) (XInvalidSpans : GF mg "InvalidSpans" CInvalidSpans) (XInvalidNodes : GF mg "InvalidNodes" CInvalidNodes) (XInvalidBounds : GF mg "InvalidBounds" CInvalidBounds) (XInvalidText : GF mg "InvalidText" CInvalidText) (XOverBudget : GF mg "OverBudget" COverBudget) (XInvalidSize : GF mg "InvalidSize" CInvalidSize) (XInvalidEntry : GF mg "InvalidEntry" CInvalidEntry) (XInvalidNode : GF mg "InvalidNode" CInvalidNode) (XInvalidSpan : GF mg "InvalidSpan" CInvalidSpan) (XInvalidNumber : GF mg "InvalidNumber" CInvalidNumber) (XInvalidHeight : GF mg "InvalidHeight" CInvalidHeight) (XInvalidBudget : GF mg "InvalidBudget" CInvalidBudget) (XInvalidOperation : GF mg "InvalidOperation" CInvalidOperation) (XNothing : GF mg "Nothing" CNothing) (XInvalidCommand : GF mg "InvalidCommand" CInvalidCommand) (z_isinstance : mg "isinstance" = none) (z_len : mg "len" = none) (z_repr : mg "repr" = none) (z_ValueError : mg "ValueError" = none) : FnOk P w K mg base CX0 1 f fd ["caught"] (spClass K [CInvalidSpans, CInvalidNodes, CInvalidBounds, CInvalidText, COverBudget, CInvalidSize, CInvalidEntry, CInvalidNode, CInvalidSpan, CInvalidNumber, CInvalidHeight, CInvalidBudget, CInvalidOperation, CNothing, CInvalidCommand]) := by
  refine F.ok scLawClass (fun vs H Q E h => ?_) (fun cdv A outer s H vs Q E hr h => ?_)
  · obtain ⟨_, _, _, _, _, _, rfl, _⟩ := h
    rfl
  obtain ⟨a, C, fs, bs, nm, wd, rfl, hx, hE, hk, hV, hf, hl, hw, q⟩ := h
  obtain ⟨b0, b1, b2, b3, b4, b5, b6, b7, b8, b9, b10, b11, b12, b13, b14, rfl⟩ : ∃ b0 b1 b2 b3 b4 b5 b6 b7 b8 b9 b10 b11 b12 b13 b14, bs = [b0, b1, b2, b3, b4, b5, b6, b7, b8, b9, b10, b11, b12, b13, b14] := by
    match bs, hk with
    | [b0, b1, b2, b3, b4, b5, b6, b7, b8, b9, b10, b11, b12, b13, b14], _ => exact ⟨_, _, _, _, _, _, _, _, _, _, _, _, _, _, _, rfl⟩
  obtain ⟨k0, k1, k2, k3, k4, k5, k6, k7, k8, k9, k10, k11, k12, k13, k14, _⟩ := hk
  have two : 2 ≤ sizeLine := by decide
  have one1 : 1 ≤ sizeLine := by decide
  have three : 3 ≤ sizeLine := by decide
  refine' ⟨_, (pss_cons (ps_set (i := 1) scLawClass.nd rfl (Or.inl rfl) (pe_lst pa_nil))
    (pss_cons (ps_expr (pe_bm PySem.F.plainAttrs_list PySem.F.slot_list_append PySem.F.type_list_append mt_append (pv 1) (pa_cons (pe_tup (pa_cons pe_str (pa_cons (pe_callB call_isX (by rfl) z_isinstance (by decide +kernel) (pa_cons (pv 0) (pa_cons (pe_glob (v := .ref CInvalidSpans) rfl XInvalidSpans.g rfl) pa_nil))) pa_nil))) pa_nil)))
    (pss_cons (ps_expr (pe_bm PySem.F.plainAttrs_list PySem.F.slot_list_append PySem.F.type_list_append mt_append (pv 1) (pa_cons (pe_tup (pa_cons pe_str (pa_cons (pe_callB call_isX (by rfl) z_isinstance (by decide +kernel) (pa_cons (pv 0) (pa_cons (pe_glob (v := .ref CInvalidNodes) rfl XInvalidNodes.g rfl) pa_nil))) pa_nil))) pa_nil)))
    (pss_cons (ps_expr (pe_bm PySem.F.plainAttrs_list PySem.F.slot_list_append PySem.F.type_list_append mt_append (pv 1) (pa_cons (pe_tup (pa_cons pe_str (pa_cons (pe_callB call_isX (by rfl) z_isinstance (by decide +kernel) (pa_cons (pv 0) (pa_cons (pe_glob (v := .ref CInvalidBounds) rfl XInvalidBounds.g rfl) pa_nil))) pa_nil))) pa_nil)))
    (pss_cons (ps_expr (pe_bm PySem.F.plainAttrs_list PySem.F.slot_list_append PySem.F.type_list_append mt_append (pv 1) (pa_cons (pe_tup (pa_cons pe_str (pa_cons (pe_callB call_isX (by rfl) z_isinstance (by decide +kernel) (pa_cons (pv 0) (pa_cons (pe_glob (v := .ref CInvalidText) rfl XInvalidText.g rfl) pa_nil))) pa_nil))) pa_nil)))
    (pss_cons (ps_expr (pe_bm PySem.F.plainAttrs_list PySem.F.slot_list_append PySem.F.type_list_append mt_append (pv 1) (pa_cons (pe_tup (pa_cons pe_str (pa_cons (pe_callB call_isX (by rfl) z_isinstance (by decide +kernel) (pa_cons (pv 0) (pa_cons (pe_glob (v := .ref COverBudget) rfl XOverBudget.g rfl) pa_nil))) pa_nil))) pa_nil)))
    (pss_cons (ps_expr (pe_bm PySem.F.plainAttrs_list PySem.F.slot_list_append PySem.F.type_list_append mt_append (pv 1) (pa_cons (pe_tup (pa_cons pe_str (pa_cons (pe_callB call_isX (by rfl) z_isinstance (by decide +kernel) (pa_cons (pv 0) (pa_cons (pe_glob (v := .ref CInvalidSize) rfl XInvalidSize.g rfl) pa_nil))) pa_nil))) pa_nil)))
    (pss_cons (ps_expr (pe_bm PySem.F.plainAttrs_list PySem.F.slot_list_append PySem.F.type_list_append mt_append (pv 1) (pa_cons (pe_tup (pa_cons pe_str (pa_cons (pe_callB call_isX (by rfl) z_isinstance (by decide +kernel) (pa_cons (pv 0) (pa_cons (pe_glob (v := .ref CInvalidEntry) rfl XInvalidEntry.g rfl) pa_nil))) pa_nil))) pa_nil)))
    (pss_cons (ps_expr (pe_bm PySem.F.plainAttrs_list PySem.F.slot_list_append PySem.F.type_list_append mt_append (pv 1) (pa_cons (pe_tup (pa_cons pe_str (pa_cons (pe_callB call_isX (by rfl) z_isinstance (by decide +kernel) (pa_cons (pv 0) (pa_cons (pe_glob (v := .ref CInvalidNode) rfl XInvalidNode.g rfl) pa_nil))) pa_nil))) pa_nil)))
    (pss_cons (ps_expr (pe_bm PySem.F.plainAttrs_list PySem.F.slot_list_append PySem.F.type_list_append mt_append (pv 1) (pa_cons (pe_tup (pa_cons pe_str (pa_cons (pe_callB call_isX (by rfl) z_isinstance (by decide +kernel) (pa_cons (pv 0) (pa_cons (pe_glob (v := .ref CInvalidSpan) rfl XInvalidSpan.g rfl) pa_nil))) pa_nil))) pa_nil)))
    (pss_cons (ps_expr (pe_bm PySem.F.plainAttrs_list PySem.F.slot_list_append PySem.F.type_list_append mt_append (pv 1) (pa_cons (pe_tup (pa_cons pe_str (pa_cons (pe_callB call_isX (by rfl) z_isinstance (by decide +kernel) (pa_cons (pv 0) (pa_cons (pe_glob (v := .ref CInvalidNumber) rfl XInvalidNumber.g rfl) pa_nil))) pa_nil))) pa_nil)))
    (pss_cons (ps_expr (pe_bm PySem.F.plainAttrs_list PySem.F.slot_list_append PySem.F.type_list_append mt_append (pv 1) (pa_cons (pe_tup (pa_cons pe_str (pa_cons (pe_callB call_isX (by rfl) z_isinstance (by decide +kernel) (pa_cons (pv 0) (pa_cons (pe_glob (v := .ref CInvalidHeight) rfl XInvalidHeight.g rfl) pa_nil))) pa_nil))) pa_nil)))
    (pss_cons (ps_expr (pe_bm PySem.F.plainAttrs_list PySem.F.slot_list_append PySem.F.type_list_append mt_append (pv 1) (pa_cons (pe_tup (pa_cons pe_str (pa_cons (pe_callB call_isX (by rfl) z_isinstance (by decide +kernel) (pa_cons (pv 0) (pa_cons (pe_glob (v := .ref CInvalidBudget) rfl XInvalidBudget.g rfl) pa_nil))) pa_nil))) pa_nil)))
    (pss_cons (ps_expr (pe_bm PySem.F.plainAttrs_list PySem.F.slot_list_append PySem.F.type_list_append mt_append (pv 1) (pa_cons (pe_tup (pa_cons pe_str (pa_cons (pe_callB call_isX (by rfl) z_isinstance (by decide +kernel) (pa_cons (pv 0) (pa_cons (pe_glob (v := .ref CInvalidOperation) rfl XInvalidOperation.g rfl) pa_nil))) pa_nil))) pa_nil)))
    (pss_cons (ps_expr (pe_bm PySem.F.plainAttrs_list PySem.F.slot_list_append PySem.F.type_list_append mt_append (pv 1) (pa_cons (pe_tup (pa_cons pe_str (pa_cons (pe_callB call_isX (by rfl) z_isinstance (by decide +kernel) (pa_cons (pv 0) (pa_cons (pe_glob (v := .ref CNothing) rfl XNothing.g rfl) pa_nil))) pa_nil))) pa_nil)))
    (pss_cons (ps_set (i := 1) scLawClass.nd rfl (Or.inl rfl) (pe_op op_cat (pv 1) (pe_lst (pa_cons (pe_tup (pa_cons pe_str (pa_cons (pe_callB call_isX (by rfl) z_isinstance (by decide +kernel) (pa_cons (pv 0) (pa_cons (pe_glob (v := .ref CInvalidCommand) rfl XInvalidCommand.g rfl) pa_nil))) pa_nil))) pa_nil))))
    (pss_cons ?cc1
    (pss_cons (ps_if (PW.pt (pw_or (pt_cmpR op_ne (pe_callB call_len_seq (by rfl) z_len PySem.boot_len (pa_cons (pv 2) pa_nil)) pe_int (nomark _)) (pw_or1 (pt_not (pt_val (pe_callB call_isX (by rfl) z_isinstance (by decide +kernel) (pa_cons (pv 0) (pa_cons (pe_bltn (v := .ty "ValueError") (u := .type "ValueError") (by rfl) z_ValueError (by decide +kernel) rfl) pa_nil))))))))
    (pss_one (ps_ret pe_str))
    pss_nil)
    (pss_cons (ps_if (pt_cmpR op_in_seq (pe_ix ix_list (pv 2) pe_int (fun _ _ => rfl)) (pe_tup (pa_cons pe_str (pa_cons pe_str (pa_cons pe_str pa_nil)))) (by rfl))
    (pss_one (ps_ret (pe_op op_add_str (pe_op op_add_str (pe_ix ix_list (pv 2) pe_int (fun _ _ => rfl)) pe_str) (pe_callB call_reprS (by rfl) z_repr (by decide +kernel) (pa_cons (pe_fldX (pv 0)) pa_nil)))))
    pss_nil)
    (pss_cons (ps_if (pt_cmpR op_eq (pe_ix ix_list (pv 2) pe_int (fun _ _ => rfl)) pe_str (nomark _))
    (pss_one (ps_ret (pe_op op_add_str pe_str (pe_callB call_reprS (by rfl) z_repr (by decide +kernel) (pa_cons (pe_fldX (pv 0)) pa_nil)))))
    pss_nil)
    (pss_one (ps_ret (pe_op op_add_str (pe_ix ix_list (pv 2) pe_int (fun _ _ => rfl)) (pe_ifExp (pt_cmpR op_eq (pe_ix ix_list (pv 2) pe_int (fun _ _ => rfl)) pe_str (nomark _)) (pe_op op_add_str pe_str (pe_callB call_reprS (by rfl) z_repr (by decide +kernel) (pa_cons (pe_fldX (pv 0)) pa_nil))) pe_str)))))))))))))))))))))))), ?_⟩
  case cc1 => exact (ps_setLc (i := 2) (own := [("name", 3), ("is_one", 4)]) rfl scLawClass.nd rfl rfl (sw_true rfl rfl rfl (by decide +kernel)) (pi_list (pv 1)) (blkOk_by (N := ["caught", "some", "found", "name", "is_one"]) (sc := defScope sLawClass) (by decide +kernel)) (fun _ _ _ _ _ => (pg_tupB (n := 2) rfl (pgs_cons (pg_name (i := 3) scLawClass.nd rfl (Or.inl rfl)) (pgs_cons (pg_name (i := 4) scLawClass.nd rfl (Or.inl rfl)) pgs_nil)))) (fun _ _ _ _ _ => pts_one (pt_val (pv 4))) (fun _ _ _ _ _ => (pv 3)))
  refine ⟨Nat.zero_le _, fun S nS => ?_⟩
  have c0 : Cl H (upd H S (.lst [])) S [] := ⟨same_upd nS, nS, [], upd_same, .nil⟩
  have s0 : (upd H S (.lst [])) S = some (.lst []) := upd_same
  generalize upd H S (.lst []) = J0 at c0 s0 ⊢
  obtain ⟨xs0, es0⟩ : ∃ xs : List V, xs = [] := ⟨_, rfl⟩
  rw [← es0] at s0
  clear es0
  have l0 := c0.len s0
  refine ⟨_, rfl, .inl ⟨rfl, _, SqL.of s0⟩, _, rfl, a, C, fs, _, _, b0, rfl, hx.same c0.sm, hE, (fun u r => r), k0, two, fun t nt => ⟨S, _, _, rfl, rfl, same_upd nt _ _ s0, szlt (by rw [l0]; show (0 : Nat) < 100000; decide), ?_⟩⟩
  have c1 := c0.put (nm := "InvalidSpans") (b := b0) s0 nt
  clear nt l0 c0 s0
  generalize upd (upd J0 t (.tup [.str "InvalidSpans", .bl b0])) S (.lst (xs0 ++ [.ref t])) = J1 at c1 ⊢
  obtain ⟨xs1, s1, _⟩ := c1.at_
  have l1 := c1.len s1
  refine ⟨_, rfl, .inl ⟨rfl, _, SqL.of s1⟩, _, rfl, a, C, fs, _, _, b1, rfl, hx.same c1.sm, hE, (fun u r => r), k1, two, fun t nt => ⟨S, _, _, rfl, rfl, same_upd nt _ _ s1, szlt (by rw [l1]; show (1 : Nat) < 100000; decide), ?_⟩⟩
  have c2 := c1.put (nm := "InvalidNodes") (b := b1) s1 nt
  clear nt l1 c1 s1
  generalize upd (upd J1 t (.tup [.str "InvalidNodes", .bl b1])) S (.lst (xs1 ++ [.ref t])) = J2 at c2 ⊢
  obtain ⟨xs2, s2, _⟩ := c2.at_
  have l2 := c2.len s2
  refine ⟨_, rfl, .inl ⟨rfl, _, SqL.of s2⟩, _, rfl, a, C, fs, _, _, b2, rfl, hx.same c2.sm, hE, (fun u r => r), k2, two, fun t nt => ⟨S, _, _, rfl, rfl, same_upd nt _ _ s2, szlt (by rw [l2]; show (2 : Nat) < 100000; decide), ?_⟩⟩
  have c3 := c2.put (nm := "InvalidBounds") (b := b2) s2 nt
  clear nt l2 c2 s2
  generalize upd (upd J2 t (.tup [.str "InvalidBounds", .bl b2])) S (.lst (xs2 ++ [.ref t])) = J3 at c3 ⊢
  obtain ⟨xs3, s3, _⟩ := c3.at_
  have l3 := c3.len s3
  refine ⟨_, rfl, .inl ⟨rfl, _, SqL.of s3⟩, _, rfl, a, C, fs, _, _, b3, rfl, hx.same c3.sm, hE, (fun u r => r), k3, two, fun t nt => ⟨S, _, _, rfl, rfl, same_upd nt _ _ s3, szlt (by rw [l3]; show (3 : Nat) < 100000; decide), ?_⟩⟩
  have c4 := c3.put (nm := "InvalidText") (b := b3) s3 nt
  clear nt l3 c3 s3
  generalize upd (upd J3 t (.tup [.str "InvalidText", .bl b3])) S (.lst (xs3 ++ [.ref t])) = J4 at c4 ⊢
  obtain ⟨xs4, s4, _⟩ := c4.at_
  have l4 := c4.len s4
  refine ⟨_, rfl, .inl ⟨rfl, _, SqL.of s4⟩, _, rfl, a, C, fs, _, _, b4, rfl, hx.same c4.sm, hE, (fun u r => r), k4, two, fun t nt => ⟨S, _, _, rfl, rfl, same_upd nt _ _ s4, szlt (by rw [l4]; show (4 : Nat) < 100000; decide), ?_⟩⟩
  have c5 := c4.put (nm := "OverBudget") (b := b4) s4 nt
  clear nt l4 c4 s4
  generalize upd (upd J4 t (.tup [.str "OverBudget", .bl b4])) S (.lst (xs4 ++ [.ref t])) = J5 at c5 ⊢
  obtain ⟨xs5, s5, _⟩ := c5.at_
  have l5 := c5.len s5
  refine ⟨_, rfl, .inl ⟨rfl, _, SqL.of s5⟩, _, rfl, a, C, fs, _, _, b5, rfl, hx.same c5.sm, hE, (fun u r => r), k5, two, fun t nt => ⟨S, _, _, rfl, rfl, same_upd nt _ _ s5, szlt (by rw [l5]; show (5 : Nat) < 100000; decide), ?_⟩⟩
  have c6 := c5.put (nm := "InvalidSize") (b := b5) s5 nt
  clear nt l5 c5 s5
  generalize upd (upd J5 t (.tup [.str "InvalidSize", .bl b5])) S (.lst (xs5 ++ [.ref t])) = J6 at c6 ⊢
  obtain ⟨xs6, s6, _⟩ := c6.at_
  have l6 := c6.len s6
  refine ⟨_, rfl, .inl ⟨rfl, _, SqL.of s6⟩, _, rfl, a, C, fs, _, _, b6, rfl, hx.same c6.sm, hE, (fun u r => r), k6, two, fun t nt => ⟨S, _, _, rfl, rfl, same_upd nt _ _ s6, szlt (by rw [l6]; show (6 : Nat) < 100000; decide), ?_⟩⟩
  have c7 := c6.put (nm := "InvalidEntry") (b := b6) s6 nt
  clear nt l6 c6 s6
  generalize upd (upd J6 t (.tup [.str "InvalidEntry", .bl b6])) S (.lst (xs6 ++ [.ref t])) = J7 at c7 ⊢
  obtain ⟨xs7, s7, _⟩ := c7.at_
  have l7 := c7.len s7
  refine ⟨_, rfl, .inl ⟨rfl, _, SqL.of s7⟩, _, rfl, a, C, fs, _, _, b7, rfl, hx.same c7.sm, hE, (fun u r => r), k7, two, fun t nt => ⟨S, _, _, rfl, rfl, same_upd nt _ _ s7, szlt (by rw [l7]; show (7 : Nat) < 100000; decide), ?_⟩⟩
  have c8 := c7.put (nm := "InvalidNode") (b := b7) s7 nt
  clear nt l7 c7 s7
  generalize upd (upd J7 t (.tup [.str "InvalidNode", .bl b7])) S (.lst (xs7 ++ [.ref t])) = J8 at c8 ⊢
  obtain ⟨xs8, s8, _⟩ := c8.at_
  have l8 := c8.len s8
  refine ⟨_, rfl, .inl ⟨rfl, _, SqL.of s8⟩, _, rfl, a, C, fs, _, _, b8, rfl, hx.same c8.sm, hE, (fun u r => r), k8, two, fun t nt => ⟨S, _, _, rfl, rfl, same_upd nt _ _ s8, szlt (by rw [l8]; show (8 : Nat) < 100000; decide), ?_⟩⟩
  have c9 := c8.put (nm := "InvalidSpan") (b := b8) s8 nt
  clear nt l8 c8 s8
  generalize upd (upd J8 t (.tup [.str "InvalidSpan", .bl b8])) S (.lst (xs8 ++ [.ref t])) = J9 at c9 ⊢
  obtain ⟨xs9, s9, _⟩ := c9.at_
  have l9 := c9.len s9
  refine ⟨_, rfl, .inl ⟨rfl, _, SqL.of s9⟩, _, rfl, a, C, fs, _, _, b9, rfl, hx.same c9.sm, hE, (fun u r => r), k9, two, fun t nt => ⟨S, _, _, rfl, rfl, same_upd nt _ _ s9, szlt (by rw [l9]; show (9 : Nat) < 100000; decide), ?_⟩⟩
  have c10 := c9.put (nm := "InvalidNumber") (b := b9) s9 nt
  clear nt l9 c9 s9
  generalize upd (upd J9 t (.tup [.str "InvalidNumber", .bl b9])) S (.lst (xs9 ++ [.ref t])) = J10 at c10 ⊢
  obtain ⟨xs10, s10, _⟩ := c10.at_
  have l10 := c10.len s10
  refine ⟨_, rfl, .inl ⟨rfl, _, SqL.of s10⟩, _, rfl, a, C, fs, _, _, b10, rfl, hx.same c10.sm, hE, (fun u r => r), k10, two, fun t nt => ⟨S, _, _, rfl, rfl, same_upd nt _ _ s10, szlt (by rw [l10]; show (10 : Nat) < 100000; decide), ?_⟩⟩
  have c11 := c10.put (nm := "InvalidHeight") (b := b10) s10 nt
  clear nt l10 c10 s10
  generalize upd (upd J10 t (.tup [.str "InvalidHeight", .bl b10])) S (.lst (xs10 ++ [.ref t])) = J11 at c11 ⊢
  obtain ⟨xs11, s11, _⟩ := c11.at_
  have l11 := c11.len s11
  refine ⟨_, rfl, .inl ⟨rfl, _, SqL.of s11⟩, _, rfl, a, C, fs, _, _, b11, rfl, hx.same c11.sm, hE, (fun u r => r), k11, two, fun t nt => ⟨S, _, _, rfl, rfl, same_upd nt _ _ s11, szlt (by rw [l11]; show (11 : Nat) < 100000; decide), ?_⟩⟩
  have c12 := c11.put (nm := "InvalidBudget") (b := b11) s11 nt
  clear nt l11 c11 s11
  generalize upd (upd J11 t (.tup [.str "InvalidBudget", .bl b11])) S (.lst (xs11 ++ [.ref t])) = J12 at c12 ⊢
  obtain ⟨xs12, s12, _⟩ := c12.at_
  have l12 := c12.len s12
  refine ⟨_, rfl, .inl ⟨rfl, _, SqL.of s12⟩, _, rfl, a, C, fs, _, _, b12, rfl, hx.same c12.sm, hE, (fun u r => r), k12, two, fun t nt => ⟨S, _, _, rfl, rfl, same_upd nt _ _ s12, szlt (by rw [l12]; show (12 : Nat) < 100000; decide), ?_⟩⟩
  have c13 := c12.put (nm := "InvalidOperation") (b := b12) s12 nt
  clear nt l12 c12 s12
  generalize upd (upd J12 t (.tup [.str "InvalidOperation", .bl b12])) S (.lst (xs12 ++ [.ref t])) = J13 at c13 ⊢
  obtain ⟨xs13, s13, _⟩ := c13.at_
  have l13 := c13.len s13
  refine ⟨_, rfl, .inl ⟨rfl, _, SqL.of s13⟩, _, rfl, a, C, fs, _, _, b13, rfl, hx.same c13.sm, hE, (fun u r => r), k13, two, fun t nt => ⟨S, _, _, rfl, rfl, same_upd nt _ _ s13, szlt (by rw [l13]; show (13 : Nat) < 100000; decide), ?_⟩⟩
  have c14 := c13.put (nm := "Nothing") (b := b13) s13 nt
  clear nt l13 c13 s13
  generalize upd (upd J13 t (.tup [.str "Nothing", .bl b13])) S (.lst (xs13 ++ [.ref t])) = J14 at c14 ⊢
  obtain ⟨xs14, s14, _⟩ := c14.at_
  have hxJ := hx.same c14.sm
  obtain ⟨_, s14', v14⟩ := c14.at_
  rw [s14] at s14'
  cases s14'
  have l14 := v14.len
  refine ⟨_, rfl, _, rfl, a, C, fs, _, _, b14, rfl, hxJ, hE, (fun u r => r), k14, two, fun t nt => ⟨one1, fun r nr => ?_⟩⟩
  have st := same_upd (o := .tup [.str "InvalidCommand", .bl b14]) nt
  have ht := upd_same (H := J14) (a := t) (o := .tup [.str "InvalidCommand", .bl b14])
  generalize upd J14 t (.tup [.str "InvalidCommand", .bl b14]) = G1 at st ht nr ⊢
  have sr := same_upd (o := .lst [.ref t]) nr
  have hr1 := upd_same (H := G1) (a := r) (o := .lst [.ref t])
  generalize upd G1 r (.lst [.ref t]) = G2 at sr hr1 ⊢
  have s2 := st.trans sr
  refine ⟨S, r, _, _, rfl, rfl, s2 _ _ s14, hr1, szle (by rw [l14]; show (15 : Nat) ≤ 100000; decide), fun R nR => ?_⟩
  have sR := same_upd (o := .lst (xs14 ++ [.ref t])) nR
  have hR := upd_same (H := G2) (a := R) (o := .lst (xs14 ++ [.ref t]))
  generalize upd G2 R (.lst (xs14 ++ [.ref t])) = G3 at sR hR ⊢
  have s3 := s2.trans sR
  have v15 := (v14.mono fun v x k => k.same s3).app (.cons ⟨t, rfl, (sr.trans sR) _ _ ht⟩ .nil : All2 (Sb G3) [.ref t] [("InvalidCommand", b14)])
  have sG := c14.sm.trans s3
  have hxG := hx.same sG
  generalize eL : [] ++ _ ++ _ ++ _ ++ _ ++ _ ++ _ ++ _ ++ _ ++ _ ++ _ ++ _ ++ _ ++ _ ++ _ ++ _ = L at v15
  have eL : L = clsNames.zip [b0, b1, b2, b3, b4, b5, b6, b7, b8, b9, b10, b11, b12, b13, b14] := by rw [← eL]; rfl
  have L15 : L.length = 15 := by rw [eL]; rfl
  rw [← eL] at hf
  have xl := v15.len
  generalize xs14 ++ [V.ref t] = X at v15 hR xl ⊢
  clear v14 c14 s14 st sr nr nR nt s2 s3 sR hxJ hr1 ht
  refine ⟨_, rfl, R, rfl, ⟨_, SqL.of hR⟩, fun D nD => lc_list (xs := X) (fun i H' => Same G3 H' ∧ H' D = some (.lst (((L.take i).filter fun x => x.2).map fun x => V.str x.1))) ⟨same_upd nD, upd_same⟩ (fun i H' _ ⟨k, _⟩ => SqL.of (k _ _ hR)) ?_ ?_⟩
  · rintro i v G hi ⟨sg, hD⟩
    obtain ⟨x, hxi, hxv⟩ := v15.nth hi
    obtain ⟨xp, rfl, hxp⟩ := hxv.same sg
    have fl : ((L.take i).filter fun x => x.2).length ≤ 15 := by
      have := List.length_filter_le (fun x : Str × Bool => x.2) (L.take i)
      rw [List.length_take] at this
      omega
    refine ⟨xp, _, rfl, SqT.of hxp, rfl, _, _, rfl, _, _, rfl, rfl, rfl, ?_⟩
    cases hb : x.2 with
    | true =>
      refine ⟨_, rfl, true, rfl, ?_⟩
      refine ⟨_, rfl, _, hD, szlt (by rw [List.length_map]; omega), ?_, ?_⟩
      · exact fun c o k => by rw [upd_ne (ne_of_none k nD)]; exact sg _ _ k
      · rw [take_more hxi, List.filter_append, List.filter_cons, hb, List.map_append]
        exact upd_same
    | false =>
      refine ⟨_, rfl, false, rfl, ?_⟩
      refine ⟨sg, ?_⟩
      rw [take_more hxi, List.filter_append, List.filter_cons, hb]
      simpa using hD
  rintro G ⟨sg, hD⟩
  rw [xl, List.take_length] at hD
  have hD : G D = some (.lst [.str nm]) := by
    have e : ((L.filter fun x => x.2).map fun x => V.str x.1) = ((L.filter fun x => x.2).map fun x => x.1).map V.str := by rw [List.map_map]; rfl
    rw [hD, e, hf]
    rfl
  have hxF := hxG.same sg
  have sF := sG.trans sg
  have at0 : atI [V.str nm] 0 = some (.str nm) := atI_nat (j := 0) rfl
  refine ⟨_, rfl, D, _, rfl, .inl (SqL.of hD), rfl, false, rfl, ?_⟩
  refine ⟨_, rfl, a, C, fs, _, _, true, rfl, hxF, hE, (fun u r => r), hV, true, rfl, ?_⟩
  refine ⟨_, rfl, D, _, _, _, rfl, rfl, SqL.of hD, at0, three, fun t nt => ⟨t, _, rfl, .inr (SqT.of upd_same), rfl, rfl, ?_⟩⟩
  have st := same_upd (o := .tup [.str "InvalidSpans", .str "InvalidNodes", .str "InvalidBounds"]) nt
  have hD2 := st _ _ hD
  have hx2 := hxF.same st
  have sZ := sF.trans st
  generalize upd G t (.tup [.str "InvalidSpans", .str "InvalidNodes", .str "InvalidBounds"]) = G5 at hD2 sZ hx2 ⊢
  have eqF : ∀ {x y : Str}, ¬ y = x → (x == y) = false := fun h => by
    rw [beq_eq_false_iff_ne]
    exact fun z => h z.symm
  have sp1 : (" " : Str).length = 1 := by decide +kernel
  have sp12 : ("InvalidText " : Str).length = 12 := by decide +kernel
  have ap : ∀ a b : Str, (a ++ b).length = a.length + b.length := fun a b => PySem.Str.length_append ..
  rcases hw with ⟨n1, n2, n3, n4, n5, hap, rfl⟩ | ⟨fl, y, rfl, hX, hy, hyl, ⟨⟨hn, hno, hlk⟩, rfl⟩ | ⟨⟨hn, hno, hlk⟩, rfl⟩ | ⟨⟨hn, hno, hlk⟩, rfl⟩⟩
  · have inF : inV (V.str wd) [V.str "InvalidSpans", V.str "InvalidNodes", V.str "InvalidBounds"] = false := by
      show ((Str.ofString "InvalidSpans" == wd) || ((Str.ofString "InvalidNodes" == wd) || ((Str.ofString "InvalidBounds" == wd) || false))) = false
      rw [eqF n1, eqF n2, eqF n3]
      rfl
    refine ⟨false, congrArg V.bl inF, ?_⟩
    refine ⟨_, rfl, D, _, _, _, rfl, rfl, SqL.of hD2, at0, rfl, false, congrArg V.bl (decide_eq_false (fun z => n4 (V.str.inj z))), ?_⟩
    refine ⟨_, rfl, D, _, _, _, rfl, rfl, SqL.of hD2, at0, ?_⟩
    refine ⟨_, rfl, D, _, _, _, rfl, rfl, SqL.of hD2, at0, rfl, false, congrArg V.bl (decide_eq_false (fun z => n5 (V.str.inj z))), _, _, rfl, rfl, ?_, ?_⟩
    · exact szle (by have : (Str.ofString "").length = 0 := rfl; omega)
    · have : Q (.str (wd ++ ("" : Str))) G5 := by rw [hap]; exact q G5 sZ
      exact this
  · have inT : inV (V.str nm) [V.str "InvalidSpans", V.str "InvalidNodes", V.str "InvalidBounds"] = true := by
      rcases hn with rfl | rfl | rfl <;> decide +kernel
    refine ⟨true, congrArg V.bl inT, ?_⟩
    have l2 : (nm ++ (" " : Str)).length ≤ 101 := by rw [ap]; omega
    exact ⟨_, rfl, D, _, _, _, rfl, rfl, SqL.of hD2, at0, _, _, rfl, rfl, szle (by omega), _, rfl, a, C, fl, y, rfl, hx2, hX, hno, hlk, y, rfl, hy, _, _, rfl, rfl, szle (by omega), q G5 sZ⟩
  · subst hn
    refine ⟨false, congrArg V.bl (by decide +kernel), ?_⟩
    refine ⟨_, rfl, D, _, _, _, rfl, rfl, SqL.of hD2, at0, rfl, true, congrArg V.bl (decide_eq_true rfl), ?_⟩
    exact ⟨_, rfl, a, C, fl, y, rfl, hx2, hX, hno, hlk, y, rfl, hy, _, _, rfl, rfl, szle (by omega), q G5 sZ⟩
  · subst hn
    refine ⟨false, congrArg V.bl (by decide +kernel), ?_⟩
    refine ⟨_, rfl, D, _, _, _, rfl, rfl, SqL.of hD2, at0, rfl, false, congrArg V.bl (decide_eq_false (fun z => absurd (V.str.inj z) (by decide +kernel))), ?_⟩
    have l2 : ((" " : Str) ++ reprS y).length ≤ 101 := by rw [ap]; omega
    have on : ("OverBudget" : Str).length ≤ 100 := hl
    refine ⟨_, rfl, D, _, _, _, rfl, rfl, SqL.of hD2, at0, ?_⟩
    refine ⟨_, rfl, D, _, _, _, rfl, rfl, SqL.of hD2, at0, rfl, true, congrArg V.bl (decide_eq_true rfl), ?_⟩
    exact ⟨_, rfl, a, C, fl, y, rfl, hx2, hX, hno, hlk, y, rfl, hy, _, _, rfl, rfl, szle (by omega), _, _, rfl, rfl, szle (by omega), q G5 sZ⟩
end
end LT

namespace LT
open PySem PySem.Spec PyProof.Rows L2
section
variable {P : Program} {w : World} {K : PySem.W.Frag} {mg : Str → Option Value} {base : Heap} {k : Nat} {f : Addr} {fd : FuncData} {ps : List Str} {sp sp1 sp2 : Sp} {CY : CXT}
theorem both (A : FnOk P w K mg base CY k f fd ps sp1) (B : FnOk P w K mg base CY k f fd ps sp2) : FnOk P w K mg base CY k f fd ps (fun vs H Q E => sp1 vs H Q E ∨ sp2 vs H Q E) :=
  ⟨fun vs H Q E h => h.elim (A.len vs H Q E) (B.len vs H Q E), fun A' outer s H args us vs Q E hr ev hb rv h => h.elim (A.run A' outer s H args us vs Q E hr ev hb rv) (B.run A' outer s H args us vs Q E hr ev hb rv)⟩
theorem toX (A : FnOk P w K mg base CX0 k f fd ps sp) : FnOk P w K mg base (L2.CX P w) k f fd ps sp := by
  refine ⟨A.len, fun A' outer s H args us vs Q E hr ev hb rv h => codeAny_mono (A.run A' outer s H args us vs Q E hr ev hb rv h) ?_⟩
  intro r s' hq
  cases r with
  | error e => exact False.elim hq
  | ok fl => cases fl <;> exact hq
/-- a def with defaults that may raise -/
theorem FunT.okX {x qual : Str} {st : Stmt} {its : List Value} {dvs : List V} {f : Addr} {fd : FuncData} {N ps : List Str} {k : Nat} {sp : Sp} (F : FunT K x qual st its dvs f fd) (S : FnScope N ps (defScope st)) (len : ∀ vs H Q E, sp vs H Q E → vs.length = ps.length)
    (hbody : ∀ (cdv : Value) (A : Around) (outer : List Env) (s : Shared) (H : Hp) (vs : List V) (Q : VK) (E : XK), Room k (A.deeper (envOfC qual (defScope st) s.heap.objs.size f cdv)) → sp vs H Q E →
      ∃ t, PSs (cxOf (L2.CX P w) P w K mg base N qual (defScope st) f cdv A outer s H E) (defBody st) t ∧ t { nx := fun _ H' => Q .non H', rt := Q } (start N vs) H) : FnOk P w K mg base (L2.CX P w) (k + 1) f fd ps sp := by
  obtain ⟨oc, od, T, kV, doc, pm, an, cdv, ct, osl, o, n, rfl, lk, hcd, lT, oT⟩ := F.ex
  exact fn_of lk hcd S len fun A outer s H vs Q E hr hsp => hbody cdv A outer s H vs Q E hr hsp
end
theorem kit_list {t : String} {K : PySem.W.Frag} {H : Hp} {v : V} (h : Pl K H v t) (hn : t ≠ "list") : PySem.W.kitOne K (.type t) (.type "list") = some false := by
  cases h with
  | non => exact kit_ty (by decide +kernel)
  | bl _ => exact kit_ty (by decide +kernel)
  | int _ => exact kit_ty (by decide +kernel)
  | str _ => exact kit_ty (by decide +kernel)
  | lst _ => exact absurd rfl hn
  | tup _ => exact kit_ty (by decide +kernel)
  | dict _ => exact kit_ty (by decide +kernel)
/-- nodes that are taken, or how a list of nodes is wrong: no list of lo to hi items, or the item that is none -/
def NodesOk (K : PySem.W.Frag) (H : Hp) (n lo hi : Nat) (v : V) : Prop := ∃ (p : Addr) (xs : List V), v = .ref p ∧ H p = some (.lst xs) ∧ lo ≤ xs.length ∧ xs.length ≤ hi ∧ ∀ x ∈ xs, Ask K H n x true
def NodesNo (K : PySem.W.Frag) (H : Hp) (lo hi : Nat) (v : V) : Prop := (∃ t, Pl K H v t ∧ t ≠ "list") ∨ ∃ (p : Addr) (xs : List V), v = .ref p ∧ H p = some (.lst xs) ∧ ¬ (lo ≤ xs.length ∧ xs.length ≤ hi)
def NodesAt (K : PySem.W.Frag) (H : Hp) (n lo hi : Nat) (v : V) (i : Nat) : Prop := ∃ (p : Addr) (xs : List V) (x : V), v = .ref p ∧ H p = some (.lst xs) ∧ lo ≤ xs.length ∧ xs.length ≤ hi ∧ (∀ (j : Nat) (y : V), j < i → xs[j]? = some y → Ask K H n y true) ∧ xs[i]? = some x ∧ Ask K H n x false
theorem NodesOk.same {K : PySem.W.Frag} {H H' : Hp} {n lo hi : Nat} {v : V} (h : NodesOk K H n lo hi v) (s : Same H H') : NodesOk K H' n lo hi v := by
  obtain ⟨p, xs, e, hp, a, b, c⟩ := h
  exact ⟨p, xs, e, s _ _ hp, a, b, fun x m => (c x m).same s⟩
theorem NodesNo.same {K : PySem.W.Frag} {H H' : Hp} {lo hi : Nat} {v : V} (h : NodesNo K H lo hi v) (s : Same H H') : NodesNo K H' lo hi v := by
  rcases h with ⟨t, a, b⟩ | ⟨p, xs, e, hp, a⟩
  · exact .inl ⟨t, a.same s, b⟩
  · exact .inr ⟨p, xs, e, s _ _ hp, a⟩
theorem NodesAt.same {K : PySem.W.Frag} {H H' : Hp} {n lo hi i : Nat} {v : V} (h : NodesAt K H n lo hi v i) (s : Same H H') : NodesAt K H' n lo hi v i := by
  obtain ⟨p, xs, x, e, hp, a, b, c, d, g⟩ := h
  exact ⟨p, xs, x, e, s _ _ hp, a, b, fun j y hj hy => (c j y hj hy).same s, d, g.same s⟩
section
variable {P : Program} {w : World} {K : PySem.W.Frag} {mg : Str → Option Value} {base : Heap} {CS CI : Addr}
def top30 : Int := 1000000000000000000000000000000
def spCheckSizeX (K : PySem.W.Frag) (C : Addr) : Sp := fun vs H Q E => ∃ (v : V) (t : String), vs = [v] ∧ Pl K H v t ∧ ((inRange 1 top30 v = true ∧ Q .non H) ∨ (inRange 1 top30 v = false ∧ E (.ref C) none H))
theorem okX_check_size {f g : Addr} {fd gd : FuncData} {t : Tok} (F : Fun K "check_size" "check_size" sCheckSize f fd) (XInvalidSize : XF K mg "InvalidSize" CS) (GIsBetween : FnOk P w K mg base CX0 2 g gd ["value", "low", "high"] (spBetweenV K)) (AIsBetween : At K mg "is_between" g gd ["value", "low", "high"]) (g_MOST_ENTRIES : mg "MOST_ENTRIES" = some (.int 1000000000000000000000000000000 t)) :
    FnOk P w K mg base (L2.CX P w) 3 f fd ["size"] (spCheckSizeX K CS) := by
  refine F.okX scCheckSize (fun vs H Q E h => ?_) (fun cdv A outer s H vs Q E hr h => ?_)
  · obtain ⟨_, _, rfl, _⟩ := h
    rfl
  obtain ⟨v, ty, rfl, hv, q⟩ := h
  refine ⟨_, (pss_one (ps_if (pt_not (pt_val (pe_call GIsBetween (hr.mono (by decide)) rfl AIsBetween.m AIsBetween.kp AIsBetween.b .nil pass0 (pa_cons (pv 0) (pa_cons pe_int (pa_cons (pe_glob (v := .int 1000000000000000000000000000000) rfl g_MOST_ENTRIES ⟨_, rfl⟩) pa_nil))))))
    (pss_one (ps_raise rfl (takes_of rfl rfl rfl rfl) (pmk_own PySem.F.excBase_ValueError XInvalidSize.q XInvalidSize.g XInvalidSize.k (raises_own XInvalidSize.b XInvalidSize.t) rfl)))
    pss_nil)), ?_⟩
  refine ⟨_, rfl, v, ty, 1, top30, rfl, hv, inRange 1 top30 v, rfl, ?_⟩
  rcases q with ⟨e, q⟩ | ⟨e, q⟩
  · rw [e]; exact q
  · rw [e]; exact q
def spListOfX (K : PySem.W.Frag) : Sp := fun vs H Q _ => ∃ (v : V) (lo hi : Nat), vs = [v, .int lo, .int hi] ∧ ((∃ (p : Addr) (xs : List V), v = .ref p ∧ H p = some (.lst xs) ∧ lo ≤ xs.length ∧ xs.length ≤ hi ∧ Q (.bl true) H) ∨ (NodesNo K H lo hi v ∧ Q (.bl false) H))
theorem ok_is_list_ofX {f : Addr} {fd : FuncData} (F : Fun K "is_list_of" "is_list_of" sIsListOf f fd) (z_isinstance : mg "isinstance" = none) (z_list : mg "list" = none) (z_len : mg "len" = none) : FnOk P w K mg base CX0 1 f fd ["value", "least", "most"] (spListOfX K) := by
  refine F.ok scIsListOf (fun vs H Q E h => ?_) (fun cdv A outer s H vs Q E hr h => ?_)
  · obtain ⟨_, _, _, rfl, _⟩ := h
    rfl
  obtain ⟨v, lo, hi, rfl, hq⟩ := h
  refine ⟨_, (pss_one (ps_ret (pe_and (pe_callB call_isi (by rfl) z_isinstance (by decide +kernel) (pa_cons (pv 0) (pa_cons (pe_bltn (v := .ty "list") (u := .type "list") (by rfl) z_list (by decide +kernel) rfl) pa_nil))) (pe_one (pe_chain op_le op_le (pv 1) (pe_callB call_len_seq (by rfl) z_len PySem.boot_len (pa_cons (pv 0) pa_nil)) (pv 2)))))), ?_⟩
  rcases hq with ⟨p, xs, rfl, hp, h1, h2, q⟩ | ⟨⟨t, ht, hn⟩ | ⟨p, xs, rfl, hp, h12⟩, q⟩
  · refine ⟨_, rfl, _, _, _, _, true, rfl, .ty "list", .base (.lst hp), kit_ty (by decide +kernel), true, rfl, ?_⟩
    refine ⟨_, rfl, _, rfl, p, xs, rfl, .inl (SqL.of hp), _, _, rfl, rfl, true, congrArg V.bl (decide_eq_true (by omega)), _, rfl, _, _, rfl, rfl, ?_⟩
    show Q (.bl (decide (((xs.length : Nat) : Int) ≤ (hi : Int)))) H
    rw [decide_eq_true (show ((xs.length : Nat) : Int) ≤ (hi : Int) by omega)]
    exact q
  · exact ⟨_, rfl, _, _, _, _, false, rfl, .ty "list", ht.ty, kit_list ht hn, false, rfl, q⟩
  · refine ⟨_, rfl, _, _, _, _, true, rfl, .ty "list", .base (.lst hp), kit_ty (by decide +kernel), true, rfl, ?_⟩
    by_cases c : lo ≤ xs.length
    · refine ⟨_, rfl, _, rfl, p, xs, rfl, .inl (SqL.of hp), _, _, rfl, rfl, true, congrArg V.bl (decide_eq_true (by omega)), _, rfl, _, _, rfl, rfl, ?_⟩
      show Q (.bl (decide (((xs.length : Nat) : Int) ≤ (hi : Int)))) H
      rw [decide_eq_false (show ¬ ((xs.length : Nat) : Int) ≤ (hi : Int) by omega)]
      exact q
    · exact ⟨_, rfl, _, rfl, p, xs, rfl, .inl (SqL.of hp), _, _, rfl, rfl, false, congrArg V.bl (decide_eq_false (by omega)), q⟩
/-- a list of nodes is asked -/
def spCheckNodesX (K : PySem.W.Frag) (C : Addr) : Sp := fun vs H Q E => ∃ (n lo hi : Nat) (v : V), vs = [.int n, v, .int lo, .int (hi : Int)] ∧ 1 ≤ n ∧ n ≤ 10 ^ 30 ∧ hi ≤ 10 ^ 6 ∧
  ((NodesOk K H n lo hi v ∧ ∀ H', Same H H' → Q .non H') ∨ (NodesNo K H lo hi v ∧ ∀ d, H d = none → E (.ref C) (some d) (upd H d (.xd [("item", .non)]))) ∨
    ∃ i, NodesAt K H n lo hi v i ∧ ∀ H' d, Same H H' → H' d = none → E (.ref C) (some d) (upd H' d (.xd [("item", .int ((i : Nat) : Int))])))
theorem okX_check_nodes {f g1 g2 : Addr} {fd d1 d2 : FuncData} {its : List Value} {dvs : List V} (F : FunT K "check_nodes" "check_nodes" sCheckNodes its dvs f fd) (XInvalidNodes : SX P w K mg base "InvalidNodes" CI "item")
    (GIsListOf : FnOk P w K mg base CX0 1 g1 d1 ["value", "least", "most"] (spListOfX K)) (AIsListOf : At K mg "is_list_of" g1 d1 ["value", "least", "most"])
    (GIsTreeNode : FnOk P w K mg base CX0 3 g2 d2 ["size", "value"] (spTreeV K)) (AIsTreeNode : At K mg "is_tree_node" g2 d2 ["size", "value"]) (z_enumerate : mg "enumerate" = none) : FnOk P w K mg base (L2.CX P w) 4 f fd ["size", "nodes", "least", "most"] (spCheckNodesX K CI) := by
  refine F.okX scCheckNodes (fun vs H Q E h => ?_) (fun cdv A outer s H vs Q E hr h => ?_)
  · obtain ⟨_, _, _, _, rfl, _⟩ := h
    rfl
  obtain ⟨n, lo, hi, v, rfl, n1, h30, h6, hq⟩ := h
  refine ⟨_, (pss_cons (ps_if (pt_not (pt_val (pe_call GIsListOf (hr.mono (by decide)) rfl AIsListOf.m AIsListOf.kp AIsListOf.b .nil pass0 (pa_cons (pv 1) (pa_cons (pv 2) (pa_cons (pv 3) pa_nil))))))
    (pss_one (ps_raise rfl (takes_of rfl rfl rfl rfl) (pmk_sup XInvalidNodes (hr.mono (by decide)) rfl (pa_cons pe_non pa_nil))))
    pss_nil)
    (pss_one (ps_for PassesOwn.leaving rfl (pi_enum (by rfl) z_enumerate (pa_cons (pv 1) pa_nil)) (pg_tup (by rfl) (pgs_cons (pg_name (i := 4) scCheckNodes.nd rfl (Or.inl rfl)) (pgs_cons (pg_name (i := 5) scCheckNodes.nd rfl (Or.inl rfl)) pgs_nil)))
    (pss_one (ps_if (pt_not (pt_val (pe_call GIsTreeNode (hr.mono (by decide)) rfl AIsTreeNode.m AIsTreeNode.kp AIsTreeNode.b .nil pass0 (pa_cons (pv 0) (pa_cons (pv 5) pa_nil)))))
    (pss_one (ps_raise rfl (takes_of rfl rfl rfl rfl) (pmk_sup XInvalidNodes (hr.mono (by decide)) rfl (pa_cons (pv 4) pa_nil))))
    pss_nil))))), ?_⟩
  rcases hq with ⟨⟨p, xs, rfl, hp, l1, l2, hx⟩, q⟩ | ⟨hno, q⟩ | ⟨i, ⟨p, xs, x0, rfl, hp, l1, l2, hx, hi0, hx0⟩, q⟩
  · refine ⟨_, rfl, _, rfl, _, rfl, .ref p, lo, hi, rfl, .inl ⟨p, xs, rfl, hp, l1, l2, true, rfl, ?_⟩⟩
    refine ⟨_, rfl, p, xs, rfl, SqL.of hp, ?_⟩
    refine for_enum (a := p) (xs := xs) (fun i σ H' => ∃ (v4 v5 : Option V), σ = [some (.int (n : Int)), some (.ref p), some (.int (lo : Int)), some (.int (hi : Int)), v4, v5] ∧ Same H H')
      ⟨none, none, rfl, Same.refl _⟩ (fun i σ H' _ ⟨_, _, _, sm⟩ => SqL.of (sm _ _ hp)) ?_ ?_
    · rintro i x σ H2 T hi' ⟨v4, v5, rfl, sm⟩ nT
      have sT := same_upd (o := .tup [.int ((i : Nat) : Int), x]) nT
      refine ⟨T, _, rfl, SqT.of upd_same, rfl, _, _, rfl, _, _, rfl, rfl, ?_⟩
      refine ⟨_, rfl, _, rfl, n, x, true, rfl, n1, Nat.le_trans h30 (by decide), (hx x (List.mem_of_getElem? hi')).same (sm.trans sT), true, rfl, ?_⟩
      exact ⟨_, _, rfl, sm.trans sT⟩
    · rintro σ H2 ⟨v4, v5, rfl, sm⟩
      exact q H2 sm
  · refine ⟨_, rfl, _, rfl, _, rfl, v, lo, hi, rfl, .inr ⟨hno, false, rfl, ?_⟩⟩
    exact ⟨_, rfl, .inl rfl, fun d nd => q d nd⟩
  · refine ⟨_, rfl, _, rfl, _, rfl, .ref p, lo, hi, rfl, .inl ⟨p, xs, rfl, hp, l1, l2, true, rfl, ?_⟩⟩
    refine ⟨_, rfl, p, xs, rfl, SqL.of hp, ?_⟩
    have d66 : (10 : Nat) ^ 6 < 10 ^ 66 := by decide
    have il : i < xs.length := (List.getElem?_eq_some_iff.mp hi0).1
    refine for_enum (a := p) (xs := xs) (fun j σ H' => ∃ (v4 v5 : Option V), σ = [some (.int (n : Int)), some (.ref p), some (.int (lo : Int)), some (.int (hi : Int)), v4, v5] ∧ Same H H' ∧ j ≤ i)
      ⟨none, none, rfl, Same.refl _, Nat.zero_le _⟩ (fun i σ H' _ ⟨_, _, _, sm, _⟩ => SqL.of (sm _ _ hp)) ?_ ?_
    · rintro j x σ H2 T hi' ⟨v4, v5, rfl, sm, ji⟩ nT
      have sT := same_upd (o := .tup [.int ((j : Nat) : Int), x]) nT
      refine ⟨T, _, rfl, SqT.of upd_same, rfl, _, _, rfl, _, _, rfl, rfl, ?_⟩
      by_cases c : j = i
      · subst c
        rw [hi'] at hi0
        cases hi0
        refine ⟨_, rfl, _, rfl, n, _, false, rfl, n1, Nat.le_trans h30 (by decide), hx0.same (sm.trans sT), false, rfl, ?_⟩
        exact ⟨_, rfl, _, rfl, .inr ⟨_, rfl, by omega⟩, fun d nd => q _ d (sm.trans sT) nd⟩
      · refine ⟨_, rfl, _, rfl, n, x, true, rfl, n1, Nat.le_trans h30 (by decide), (hx j x (by omega) hi').same (sm.trans sT), true, rfl, ?_⟩
        exact ⟨_, _, rfl, sm.trans sT, by omega⟩
    · rintro σ H2 ⟨v4, v5, rfl, sm, le⟩
      omega
end
end LT

namespace LT
open PySem PySem.Spec PyProof.Rows L2
/-! ### promises of defs that show things: what is being shown around them is told to be nothing -/
structure GOk (P : Program) (w : World) (K : PySem.W.Frag) (mg : Str → Option Value) (base : Heap) (k : Nat) (f : Addr) (fd : FuncData) (ps : List Str) (sp : Sp) : Prop where
  len : ∀ vs H Q E, sp vs H Q E → vs.length = ps.length
  run : ∀ (A : Around) (outer : List Env) (s : Shared) (H : Hp) (args : Args) (us : List Value) (vs : List V) (Q : VK), A.guards = some [] → Room k A → Env0 P w K mg base A outer s H → BindsTo s fd args (ps.zip us) → Vals vs us → sp vs H Q E0 →
    codeAny (model P w) A (.call (.ref f) args) (CR CX0 outer P w H s Q E0) s
section
variable {P : Program} {w : World} {K : PySem.W.Frag} {mg : Str → Option Value} {base : Heap} {k : Nat} {f : Addr} {fd : FuncData} {ps : List Str} {sp : Sp}
theorem GOk.of (F : FnOk P w K mg base CX0 k f fd ps sp) : GOk P w K mg base k f fd ps sp := by
  refine ⟨F.len, ?_⟩
  intro A outer s H args us vs Q _
  exact F.run A outer s H args us vs Q E0
theorem GOk.mono {j : Nat} (F : GOk P w K mg base j f fd ps sp) (h : j ≤ k) : GOk P w K mg base k f fd ps sp := by
  refine ⟨F.len, ?_⟩
  intro A outer s H args us vs Q hg hr
  exact F.run A outer s H args us vs Q hg (hr.mono h)
/-- a def by its body, as Fun.ok -/
theorem okG {x qual : Str} {st : Stmt} {N : List Str} (F : Fun K x qual st f fd) (S : FnScope N ps (defScope st)) (len : ∀ vs H Q E, sp vs H Q E → vs.length = ps.length)
    (body : ∀ (cdv : Value) (A : Around) (outer : List Env) (s : Shared) (H : Hp) (vs : List V) (Q : VK), A.guards = some [] → Room k (A.deeper (envOfC qual (defScope st) s.heap.objs.size f cdv)) → sp vs H Q E0 →
      ∃ t, PSs (cxOf CX0 P w K mg base N qual (defScope st) f cdv A outer s H E0).nox (defBody st) t ∧ t { nx := fun _ H' => Q .non H', rt := Q } (start N vs) H) : GOk P w K mg base (k + 1) f fd ps sp := by
  obtain ⟨oc, od, kV, doc, pm, an, cdv, ct, osl, e, lk, hcd⟩ := F.ex
  subst e
  refine ⟨len, ?_⟩
  intro A outer s H args us vs Q hg hr ev hb rv hsp
  have nvs := len _ _ _ _ hsp
  have there : K.In s.heap := ev.mod.kin.keeps (fun b o q => (ev.bs b o q).1)
  have noLim : s.heap.NoLimit := ev.mod.nolimit.keeps (fun b o q => (ev.bs b o q).1)
  have kinds : ∀ y ∈ ps.zip us, (defScope st).names.lookup y.1 = some .local ∨ ((defScope st).names.lookup y.1 = some .cell ∧ ((cellsFrom (s.heap.objs.size + 1) (defScope st).names []).lookup y.1).isSome = true) := by
    intro y hy
    rcases S.par y.1 (List.of_mem_zip hy).1 with q | q
    · exact Or.inl q
    · exact Or.inr ⟨q, PySem.W.cellsFrom_some _ _ _ (Or.inl q)⟩
  apply codeAny_call_function hr.depth (there _ _ lk) rfl S.co S.gen rfl (PySem.W.codeRec_of there hcd)
  apply hb
  apply wpAny_newFunctionEnv_cells S.kind kinds
  intro env he s1 made
  subst he
  refine ⟨noLim.keeps made.toInCall.keep, codeAny_func ?_⟩
  obtain ⟨t, ht, hq⟩ := body cdv A outer s H vs Q hg (hr.deeper _) hsp
  have I : Inv (cxOf CX0 P w K mg base N qual (defScope st) f cdv A outer s H E0) [] (start N vs) H s1 := inv_start S hr.hd ev nvs rv made
  have ran := ht.nox.run [] s1 (start N vs) H _ I hq
  apply wpAny_mono ran
  · intro fl s' hs
    have fin : ∀ {σ' : L2.St} {H' : Hp} {v : V} {u : Value}, Inv (cxOf CX0 P w K mg base N qual (defScope st) f cdv A outer s H E0) [] σ' H' s' → RelV v u → Q v H' → CE outer P w H s Q u s' := by
      intro σ' H' v u J r q
      exact ⟨v, H', J.os, J.bare, J.base, J.hok, r, q⟩
    match fl, hs with
    | .ret u, ⟨v, σ', H', J, r, q⟩ => exact fin J r q
    | .next, ⟨σ', H', J, q⟩ => exact fin (v := V.non) (u := Value.none) J rfl q
    | .brk, ⟨_, _, _, q⟩ => exact False.elim q
    | .cont, ⟨_, _, _, q⟩ => exact False.elim q
  · intro e s' hs
    exact hs
end
section
variable {X : Cx} {k : Nat} {f : Addr} {fd : FuncData} {ps : List Str} {sp : Sp} {x : Str} {p pos : Pos} {e : Expr} {es : List Expr} {t : TA}
theorem runG {pins : List (Addr × Obj)} {σ : L2.St} {H : Hp} {s : Shared} {Q : VK} {us : List Value} {vs : List V} (F : GOk X.prog X.w X.K X.mg X.base k f fd ps sp) (hg : X.A.guards = some []) (hr : Room k X.A) (hb : Binds X.K fd ps [])
    (I : Inv X pins σ H s) (rv : Vals vs us) (h : sp vs H Q E0) : wpAny (model X.prog X.w) X.A (call (.ref f) us) (EP X pins σ Q) X.xe s := by
  have n : (us ++ []).length = ps.length := by
    rw [List.append_nil, ← rv.length]
    exact F.len _ _ _ _ h
  have b := hb s us I.kIn n
  rw [List.append_nil] at b
  apply wpAny_call
  apply codeAny_mono (F.run X.A X.stack s H ⟨us, []⟩ us vs Q hg hr I.env0 b rv h)
  intro res s' hq
  match res, hq with
  | .error _, hq => exact False.elim hq
  | .ok (.ret u), hq => exact I.after hq
  | .ok .next, hq => exact False.elim hq
  | .ok .brk, hq => exact False.elim hq
  | .ok .cont, hq => exact False.elim hq
theorem pe_callG (F : GOk X.prog X.w X.K X.mg X.base k f fd ps sp) (hgd : X.A.guards = some []) (hr : Room k X.A) (hg : Gl X x) (hm : X.mg x = some (.ref f)) (hk : PySem.W.keepIn X.K (.ref f) = true) (hb : Binds X.K fd ps [])
    (ha : PA X (e :: es) t) (hdb : (x == ("__debug__" : Str)) = false := by decide) (he : starEach (e :: es) X.env = (false, eval e X.env) :: starEach es X.env := by rfl) (hpl : (backTo pos (starEach es X.env)).any (·.1) = false := by rfl) :
    PE X (.Call (.Name x p) (e :: es) [] pos) (tCall sp [] E0 t) := by
  constructor
  intro pins s σ H Q I h
  apply wpAny_Call_Name_kw
  refine ld_glob I hg hm ?_ hdb
  apply PySem.W.callWith_K (h₀ := X.base) I.ok.mod.kin hk _ he hpl
  apply thn (ha.run pos pins s σ H _ I h)
  intro us s1 hh
  obtain ⟨vs, H1, I1, rv, q⟩ := hh
  rw [List.append_nil] at q
  exact ⟨I1.kIn, runG F hgd hr hb I1 rv q⟩
/-- repr of lists and tuples of plain data -/
theorem call_repr (hg : X.A.guards = some []) (hu : X.A.units + 65 < cLine) :
    CallR X (.builtin "repr") (fun xs H Q => ∃ y d, xs = [y] ∧ Dp X.K H y d ∧ PyProof.Rows.isDisplay d = true ∧ SeqAt.shaped d = true ∧ d.showable = true ∧ d.shown.length ≤ sizeLine ∧ Q (.str d.shown) H) := by
  intro pins s σ H xs us Q I r h
  obtain ⟨y, d, rfl, hd, hi, hsh, hs, hl, q⟩ := h
  obtain ⟨u, rfl, r1⟩ := vals1 r
  obtain ⟨as, r2⟩ := Dp.reads I d y u hd r1
  obtain ⟨a, rfl⟩ := PyProof.Rows.isRef_of_reads r2 hi
  have dp := SeqAt.depth_of_shaped hsh
  refine repr_of_reads' r2 hs (PyData.noDict_hsm (PyData.hasDict_of_canLay d (SeqAt.canLay_of_shaped hsh))) hg (by omega) (fun _ _ q => q) ?_ hl
  intro h' u tk kept
  exact ⟨.str d.shown, H, I.kept kept, ⟨_, rfl⟩, q⟩
theorem call_reprB {s : Shared} {H : Hp} {sc : Scope} {ce : Env} {fp : List Addr} (hg : X.A.guards = some []) (hu : X.A.units + 65 < cLine) :
    CallR (X.blk s H sc ce fp) (.builtin "repr") (fun xs H Q => ∃ y d, xs = [y] ∧ Dp X.K H y d ∧ PyProof.Rows.isDisplay d = true ∧ SeqAt.shaped d = true ∧ d.showable = true ∧ d.shown.length ≤ sizeLine ∧ Q (.str d.shown) H) := call_repr (X := X.blk s H sc ce fp) hg hu
end
end LT

namespace LT
open PySem PySem.Spec PyProof.Rows L2
/-! ### repr of lists and tuples within one another, with empty dicts (dk) or without -/
def RpZ (dk : Bool) (H : Hp) (v : V) (d : PyData) : Prop := (v = .non ∧ d = .none) ∨ (∃ b, v = .bl b ∧ d = .bool b) ∨ (∃ i, v = .int i ∧ d = .int i) ∨ (∃ x, v = .str x ∧ d = .str x) ∨ (dk = true ∧ ∃ p, v = .ref p ∧ H p = some (.dK []) ∧ d = .dict [])
def Rp (dk : Bool) : Nat → Hp → V → PyData → Prop
  | 0, H, v, d => RpZ dk H v d
  | k + 1, H, v, d => RpZ dk H v d ∨ (∃ p vs ds, v = .ref p ∧ H p = some (.tup vs) ∧ d = .tuple ds ∧ All2 (Rp dk k H) vs ds) ∨ (∃ p vs ds, v = .ref p ∧ H p = some (.lst vs) ∧ d = .list ds ∧ (dk = true → (p == sysModules) = false) ∧ All2 (Rp dk k H) vs ds)
theorem RpZ.same {dk : Bool} {H H' : Hp} {v : V} {d : PyData} (h : RpZ dk H v d) (s : Same H H') : RpZ dk H' v d := by
  rcases h with h | h | h | h | ⟨e, p, e1, hp, e2⟩
  · exact .inl h
  · exact .inr (.inl h)
  · exact .inr (.inr (.inl h))
  · exact .inr (.inr (.inr (.inl h)))
  · exact .inr (.inr (.inr (.inr ⟨e, p, e1, s _ _ hp, e2⟩)))
theorem Rp.same {dk : Bool} {H H' : Hp} (s : Same H H') : ∀ {k : Nat} {v : V} {d : PyData}, Rp dk k H v d → Rp dk k H' v d
  | 0, _, _, h => RpZ.same h s
  | k + 1, _, _, h => by
    rcases h with h | ⟨p, vs, ds, e, hp, e2, a⟩ | ⟨p, vs, ds, e, hp, e2, g, a⟩
    · exact .inl (h.same s)
    · exact .inr (.inl ⟨p, vs, ds, e, s _ _ hp, e2, a.mono fun v x (z : Rp dk k H v x) => Rp.same s z⟩)
    · exact .inr (.inr ⟨p, vs, ds, e, s _ _ hp, e2, g, a.mono fun v x (z : Rp dk k H v x) => Rp.same s z⟩)
theorem Rp.up {dk : Bool} {H : Hp} : ∀ {k : Nat} {v : V} {d : PyData}, Rp dk k H v d → Rp dk (k + 1) H v d
  | 0, _, _, h => .inl h
  | k + 1, _, _, h => by
    rcases h with h | ⟨p, vs, ds, e, hp, e2, a⟩ | ⟨p, vs, ds, e, hp, e2, g, a⟩
    · exact .inl h
    · exact .inr (.inl ⟨p, vs, ds, e, hp, e2, a.mono fun v x (z : Rp dk k H v x) => Rp.up z⟩)
    · exact .inr (.inr ⟨p, vs, ds, e, hp, e2, g, a.mono fun v x (z : Rp dk k H v x) => Rp.up z⟩)
theorem RpZ.weak {H : Hp} {v : V} {d : PyData} (h : RpZ false H v d) : RpZ true H v d := by
  rcases h with h | h | h | h | ⟨e, _⟩
  · exact .inl h
  · exact .inr (.inl h)
  · exact .inr (.inr (.inl h))
  · exact .inr (.inr (.inr (.inl h)))
  · cases e
theorem RpZ.no {H : Hp} {v : V} {d : PyData} (h : RpZ false H v d) : d.hasDict = false := by
  rcases h with ⟨_, rfl⟩ | ⟨_, _, rfl⟩ | ⟨_, _, rfl⟩ | ⟨_, _, rfl⟩ | ⟨e, _⟩
  · simp only [PyData.hasDict]
  · simp only [PyData.hasDict]
  · simp only [PyData.hasDict]
  · simp only [PyData.hasDict]
  · cases e
theorem all2_no {R : V → PyData → Prop} (f : ∀ v d, R v d → d.hasDict = false) {vs : List V} {ds : List PyData} (h : All2 R vs ds) : PyData.hasDictAll ds = false := by
  induction h with
  | nil => simp only [PyData.hasDictAll]
  | cons h _ ih => simp only [PyData.hasDictAll, f _ _ h, ih, Bool.or_self]
theorem Rp.no {H : Hp} : ∀ {k : Nat} {v : V} {d : PyData}, Rp false k H v d → d.hasDict = false
  | 0, _, _, h => RpZ.no h
  | k + 1, _, _, h => by
    rcases h with h | ⟨p, vs, ds, e, hp, rfl, a⟩ | ⟨p, vs, ds, e, hp, rfl, g, a⟩
    · exact h.no
    · simp only [PyData.hasDict]
      exact all2_no (fun v d z => Rp.no z) a
    · simp only [PyData.hasDict]
      exact all2_no (fun v d z => Rp.no z) a
theorem all2_deep {R : V → PyData → Prop} {n : Nat} (f : ∀ v d, R v d → d.depth ≤ n) {vs : List V} {ds : List PyData} (h : All2 R vs ds) : PyData.depthAll ds ≤ n := by
  induction h with
  | nil => simp only [PyData.depthAll]; exact Nat.zero_le _
  | cons h _ ih =>
    have := f _ _ h
    simp only [PyData.depthAll]
    omega
theorem RpZ.deep {dk : Bool} {H : Hp} {v : V} {d : PyData} (h : RpZ dk H v d) : d.depth ≤ 2 := by
  rcases h with ⟨_, rfl⟩ | ⟨_, _, rfl⟩ | ⟨_, _, rfl⟩ | ⟨_, _, rfl⟩ | ⟨_, _, _, _, rfl⟩ <;> simp [PyData.depth, PyData.depthAll, PyData.depthKv]
theorem Rp.deep {dk : Bool} {H : Hp} : ∀ {k : Nat} {v : V} {d : PyData}, Rp dk k H v d → d.depth ≤ k + 2
  | 0, _, _, h => RpZ.deep h
  | k + 1, _, _, h => by
    rcases h with h | ⟨p, vs, ds, e, hp, rfl, a⟩ | ⟨p, vs, ds, e, hp, rfl, g, a⟩
    · have := h.deep
      omega
    · have := all2_deep (fun v d z => Rp.deep z) a
      simp only [PyData.depth]
      omega
    · have := all2_deep (fun v d z => Rp.deep z) a
      simp only [PyData.depth]
      omega
section
variable {X : Cx} {pins : List (Addr × Obj)} {σ : L2.St} {H : Hp} {s : Shared}
theorem RpZ.reads (I : Inv X pins σ H s) {dk : Bool} {v : V} {d : PyData} {u : Value} (h : RpZ dk H v d) (r : RelV v u) : ∃ as, Reads s.heap u d as ∧ (dk = true → sysModules ∉ as) := by
  rcases h with ⟨rfl, rfl⟩ | ⟨b, rfl, rfl⟩ | ⟨i, rfl, rfl⟩ | ⟨x, rfl, rfl⟩ | ⟨_, p, rfl, e, rfl⟩
  · cases r
    exact ⟨_, Reads.none, fun _ => List.not_mem_nil⟩
  · cases r
    exact ⟨_, Reads.bool b, fun _ => List.not_mem_nil⟩
  · obtain ⟨t, rfl⟩ := r
    exact ⟨_, Reads.int i t, fun _ => List.not_mem_nil⟩
  · obtain ⟨t, rfl⟩ := r
    exact ⟨_, Reads.str x t, fun _ => List.not_mem_nil⟩
  · cases r
    obtain ⟨_, hs, vs, kv, o, es, ep, ho, hx, hd, _, hp, _⟩ := dk_of I.hok e
    cases kv
    have e0 : es.toList = [] := by
      cases h : es.toList with
      | nil => rfl
      | cons a l => rw [h] at hp; cases hp
    refine ⟨_, Reads.dict (kvs := []) (as := []) (bs := []) ho hx.1 hd ?_ ?_, fun _ z => ?_⟩
    · rw [e0]; exact .nil
    · rw [e0]; exact .nil
    · rcases List.mem_cons.mp z with z | z
      · rw [← z] at hs; exact absurd hs (by decide)
      · cases z
theorem all2_reads (I : Inv X pins σ H s) {dk : Bool} {R : V → PyData → Prop} (f : ∀ v d u, R v d → RelV v u → ∃ as, Reads s.heap u d as ∧ (dk = true → sysModules ∉ as)) : ∀ {vs : List V} {ds : List PyData} {us : List Value}, All2 R vs ds → Vals vs us → ∃ as, ReadsAll s.heap us ds as ∧ (dk = true → sysModules ∉ as)
  | _, _, _, .nil, r => by
    cases r
    exact ⟨_, .nil, fun _ => List.not_mem_nil⟩
  | _, _, _, .cons h t, r => by
    cases r with
    | cons r1 r2 =>
      obtain ⟨as, a1, a2⟩ := f _ _ _ h r1
      obtain ⟨bs, b1, b2⟩ := all2_reads I f t r2
      exact ⟨_, .cons a1 b1, fun z m => (List.mem_append.mp m).elim (a2 z) (b2 z)⟩
theorem Rp.reads (I : Inv X pins σ H s) {dk : Bool} : ∀ {k : Nat} {v : V} {d : PyData} {u : Value}, Rp dk k H v d → RelV v u → ∃ as, Reads s.heap u d as ∧ (dk = true → sysModules ∉ as)
  | 0, _, _, _, h, r => RpZ.reads I h r
  | k + 1, _, _, _, h, r => by
    rcases h with h | ⟨p, vs, ds, rfl, hp, rfl, a⟩ | ⟨p, vs, ds, rfl, hp, rfl, g, a⟩
    · exact h.reads I r
    · cases r
      obtain ⟨its, rv, ⟨o, ho, hc, n, hd⟩, _⟩ := I.tuple (SqT.of hp)
      obtain ⟨as, a1, a2⟩ := all2_reads I (dk := dk) (fun v d u z rr => Rp.reads I z rr) a rv
      exact ⟨_, Reads.tuple ho hc hd a1, a2⟩
    · cases r
      obtain ⟨its, rv, ⟨o, n, ho, hc, _, hd⟩, _⟩ := I.list (SqL.of hp)
      obtain ⟨as, a1, a2⟩ := all2_reads I (dk := dk) (fun v d u z rr => Rp.reads I z rr) a rv
      refine ⟨_, Reads.list ho hc hd a1, fun z m => ?_⟩
      rcases List.mem_cons.mp m with m | m
      · have := g z
        rw [← m] at this
        exact absurd this (by decide)
      · exact a2 z m
end
section
variable {X : Cx}
/-- repr of such a value -/
theorem call_rp (hg : X.A.guards = some []) (hu : X.A.units + 65 < cLine) :
    CallR X (.builtin "repr") (fun xs H Q => ∃ v d dk k, xs = [v] ∧ k ≤ 20 ∧ Rp dk k H v d ∧ d.showable = true ∧ d.shown.length ≤ sizeLine ∧ Q (.str d.shown) H) := by
  intro pins s σ H xs us Q I r h
  obtain ⟨v, d, dk, k, rfl, hk, hv, hsh, hlen, q⟩ := h
  obtain ⟨u, rfl, r1⟩ := vals1 r
  have dp := hv.deep
  obtain ⟨as, rd, hs⟩ := Rp.reads I hv r1
  have hn : d.hasDict = true → sysModules ∉ as := fun z => by
    cases dk with
    | true => exact hs rfl
    | false =>
      have := hv.no
      rw [this] at z
      cases z
  cases u with
  | ref a =>
    refine repr_of_reads' rd hsh hn hg (by omega) (fun _ _ q => q) ?_ hlen
    intro h' u tk kept
    exact ⟨.str d.shown, H, I.kept kept, ⟨_, rfl⟩, q⟩
  | none =>
    cases rd
    exact PySem.P.repr_of_none ⟨.str _, H, I.tok _, ⟨_, rfl⟩, q⟩
  | bool b =>
    cases rd
    exact PySem.P.repr_of_bool ⟨.str _, H, I.tok _, ⟨_, rfl⟩, q⟩
  | int i t =>
    cases rd
    simp only [PyData.showable, decide_eq_true_eq] at hsh
    simp only [PyData.shown] at q
    exact PySem.P.repr_of_int hsh ⟨.str _, H, I.tok _, ⟨_, rfl⟩, q⟩
  | str x t =>
    cases rd
    simp only [PyData.shown] at q hlen
    exact PySem.P.repr_of_str ⟨.str _, H, I.tok _, ⟨_, rfl⟩, q⟩ hlen
  | _ => cases rd
end
/-- what is shown is short -/
def Tn (n : Nat) (d : PyData) : Prop := d.showable = true ∧ d.shown.length ≤ n
theorem Tn.le {n m : Nat} {d : PyData} (h : Tn n d) (l : n ≤ m) : Tn m d := ⟨h.1, Nat.le_trans h.2 l⟩
theorem tn_none : Tn 10 .none := ⟨by simp only [PyData.showable], by simp only [PyData.shown]; decide +kernel⟩
theorem tn_bool (b : Bool) : Tn 10 (.bool b) := ⟨by simp only [PyData.showable], by cases b <;> simp only [PyData.shown] <;> decide +kernel⟩
theorem tn_dict : Tn 10 (.dict []) := ⟨by simp only [PyData.showable, PyData.showableKv], by simp only [PyData.shown, PyData.shownKv]; decide +kernel⟩
theorem tn_int {i : Int} (h : i.natAbs < 10 ^ 66) : Tn 70 (.int i) := by
  refine ⟨?_, ?_⟩
  · simp only [PyData.showable]
    refine decide_eq_true ?_
    by_cases z : i.natAbs = 0
    · rw [z]; decide
    · exact Nat.lt_of_lt_of_le ((Nat.log2_lt (k := 250) z).mpr (Nat.lt_of_lt_of_le h (by decide))) (by decide)
  · have e := int_text_length_le10 (a := i) (k := 66) (by decide) h
    simp only [PyData.shown]
    show (Str.ofString (toString i)).length ≤ 70
    rw [PySem.ofString_length]
    omega
theorem tn_all {n : Nat} : ∀ {ds : List PyData}, (∀ d ∈ ds, Tn n d) → PyData.showableAll ds = true ∧ ((PyData.shownAll ds).map (·.length)).sum ≤ ds.length * n ∧ (PyData.shownAll ds).length = ds.length
  | [], _ => ⟨by simp only [PyData.showableAll], by simp [PyData.shownAll], by simp only [PyData.shownAll, List.length_nil]⟩
  | d :: ds, h => by
    obtain ⟨a, b, c⟩ := tn_all (n := n) fun x m => h x (List.mem_cons_of_mem _ m)
    have t := h d List.mem_cons_self
    refine ⟨by simp only [PyData.showableAll, t.1, a, Bool.and_self], ?_, by simp only [PyData.shownAll, List.length_cons, c]⟩
    simp only [PyData.shownAll, List.map_cons, List.sum_cons, List.length_cons]
    have := t.2
    have e : (ds.length + 1) * n = ds.length * n + n := by rw [Nat.add_mul, Nat.one_mul]
    omega
theorem tn_list {n : Nat} {ds : List PyData} (h : ∀ d ∈ ds, Tn n d) : Tn (ds.length * (n + 2) + 3) (.list ds) := by
  obtain ⟨a, b, c⟩ := tn_all h
  have t := PySem.listText_len_le (PyData.shownAll ds)
  have e : ds.length * (n + 2) = ds.length * n + ds.length * 2 := Nat.mul_add ..
  exact ⟨by simp only [PyData.showable, a], by simp only [PyData.shown]; omega⟩
theorem tn_tup {n : Nat} {ds : List PyData} (h : ∀ d ∈ ds, Tn n d) : Tn (ds.length * (n + 2) + 3) (.tuple ds) := by
  obtain ⟨a, b, c⟩ := tn_all h
  have t := PySem.tupleText_len_le (PyData.shownAll ds)
  have e : ds.length * (n + 2) = ds.length * n + ds.length * 2 := Nat.mul_add ..
  exact ⟨by simp only [PyData.showable, a], by simp only [PyData.shown]; omega⟩
end LT

namespace LT
open PySem PySem.Spec PyProof.Rows L2
section
variable {P : Program} {w : World} {K : PySem.W.Frag} {mg : Str → Option Value} {base : Heap} {CS CI : Addr}
/-- show_nodes: a wrong size, a wrong list -/
def spShowX (K : PySem.W.Frag) (CS CI : Addr) : Sp := fun vs H Q E => ∃ (v1 v2 : V) (t : String), vs = [v1, v2] ∧ Pl K H v1 t ∧
  ((inRange 1 top30 v1 = false ∧ E (.ref CS) none H) ∨ ∃ n : Nat, v1 = .int n ∧ 1 ≤ n ∧ n ≤ 10 ^ 30 ∧ ((NodesNo K H 0 4000 v2 ∧ ∀ d, H d = none → E (.ref CI) (some d) (upd H d (.xd [("item", .non)]))) ∨
    ∃ i, NodesAt K H n 0 4000 v2 i ∧ ∀ H' d, Same H H' → H' d = none → E (.ref CI) (some d) (upd H' d (.xd [("item", .int ((i : Nat) : Int))]))))
theorem inR_nat {n : Nat} (h1 : 1 ≤ n) (h : n ≤ 10 ^ 30) : inRange 1 top30 (.int (n : Int)) = true := by
  show (decide ((1 : Int) ≤ n) && decide ((n : Int) ≤ top30)) = true
  rw [decide_eq_true (by omega), decide_eq_true (by unfold top30; omega)]
  rfl
theorem okX_show_nodes {f g1 g2 g3 : Addr} {fd d1 d2 d3 : FuncData} {t : Tok} (F : Fun K "show_nodes" "show_nodes" sShowNodes f fd)
    (GXCheckSize : FnOk P w K mg base (L2.CX P w) 3 g1 d1 ["size"] (spCheckSizeX K CS)) (ACheckSize : At K mg "check_size" g1 d1 ["size"])
    (GXCheckNodes : FnOk P w K mg base (L2.CX P w) 4 g2 d2 ["size", "nodes", "least", "most"] (spCheckNodesX K CI)) (ACheckNodes : At K mg "check_nodes" g2 d2 ["size", "nodes", "least", "most"])
    (GTextOf : FnOk P w K mg base CX0 1 g3 d3 ["nodes"] spTextOf) (ATextOf : At K mg "text_of" g3 d3 ["nodes"]) (g_MOST_SHOWN : mg "MOST_SHOWN" = some (.int 4000 t)) : FnOk P w K mg base (L2.CX P w) 5 f fd ["size", "nodes"] (spShowX K CS CI) := by
  refine F.okX scShowNodes (fun vs H Q E h => ?_) (fun cdv A outer s H vs Q E hr h => ?_)
  · obtain ⟨_, _, _, rfl, _⟩ := h
    rfl
  obtain ⟨v1, v2, t1, rfl, h1, q⟩ := h
  refine ⟨_, (pss_cons (ps_expr (pe_callS GXCheckSize (hr.mono (by decide)) rfl ACheckSize.m ACheckSize.kp ACheckSize.b (fun σ => passAt (takes_of rfl rfl rfl rfl) σ) (pa_cons (pv 0) pa_nil)))
    (pss_cons (ps_expr (pe_callS GXCheckNodes (hr.mono (by decide)) rfl ACheckNodes.m ACheckNodes.kp ACheckNodes.b (fun σ => passAt (takes_of rfl rfl rfl rfl) σ) (pa_cons (pv 0) (pa_cons (pv 1) (pa_cons pe_int (pa_cons (pe_glob (v := .int 4000) rfl g_MOST_SHOWN ⟨_, rfl⟩) pa_nil))))))
    (pss_one (ps_ret (pe_call GTextOf (hr.mono (by decide)) rfl ATextOf.m ATextOf.kp ATextOf.b .nil pass0 (pa_cons (pv 1) pa_nil)))))), ?_⟩
  rcases q with ⟨e, q⟩ | ⟨n, rfl, n1, h30, q⟩
  · exact ⟨_, rfl, _, t1, rfl, h1, .inr ⟨e, q⟩⟩
  · refine ⟨_, rfl, _, t1, rfl, h1, .inl ⟨inR_nat n1 h30, ?_⟩⟩
    exact ⟨_, rfl, _, rfl, n, 0, 4000, v2, rfl, n1, h30, by decide, .inr q⟩
/-- read_nodes: a wrong size -/
def spReadX (K : PySem.W.Frag) (CS : Addr) : Sp := fun vs H Q E => ∃ (v1 v2 : V) (t : String), vs = [v1, v2] ∧ Pl K H v1 t ∧ inRange 1 top30 v1 = false ∧ E (.ref CS) none H
theorem okX_read_nodes {f g1 g2 g3 : Addr} {fd d1 d2 d3 : FuncData} (F : Fun K "read_nodes" "read_nodes" sReadNodes f fd) (XInvalidText : SX P w K mg base "InvalidText" CI "part")
    (GXCheckSize : FnOk P w K mg base (L2.CX P w) 3 g1 d1 ["size"] (spCheckSizeX K CS)) (ACheckSize : At K mg "check_size" g1 d1 ["size"])
    (GNumberOf : FnOk P w K mg base CX0 1 g2 d2 ["word"] spNumberOf) (ANumberOf : At K mg "number_of" g2 d2 ["word"])
    (GIsTreeNode : FnOk P w K mg base CX0 3 g3 d3 ["size", "value"] (spTreeV K)) (AIsTreeNode : At K mg "is_tree_node" g3 d3 ["size", "value"]) (z_enumerate : mg "enumerate" = none) (z_isinstance : mg "isinstance" = none) (z_str : mg "str" = none) : FnOk P w K mg base (L2.CX P w) 4 f fd ["size", "text"] (spReadX K CS) := by
  refine F.okX scReadNodes (fun vs H Q E h => ?_) (fun cdv A outer s H vs Q E hr h => ?_)
  · obtain ⟨_, _, _, rfl, _⟩ := h
    rfl
  obtain ⟨v1, v2, t1, rfl, h1, e, q⟩ := h
  refine ⟨_, (pss_cons (ps_expr (pe_callS GXCheckSize (hr.mono (by decide)) rfl ACheckSize.m ACheckSize.kp ACheckSize.b (fun σ => passAt (takes_of rfl rfl rfl rfl) σ) (pa_cons (pv 0) pa_nil)))
    (pss_cons (ps_if (pt_not (pt_val (pe_callB call_isi (by rfl) z_isinstance (by decide +kernel) (pa_cons (pv 1) (pa_cons (pe_bltn (v := .ty "str") (u := .type "str") (by rfl) z_str (by decide +kernel) rfl) pa_nil)))))
    (pss_one (ps_raise rfl (takes_of rfl rfl rfl rfl) (pmk_sup XInvalidText (hr.mono (by decide)) rfl (pa_cons pe_non pa_nil))))
    pss_nil)
    (pss_cons (ps_if (pt_cmpR op_eq (pv 1) pe_str (nomark _))
    (pss_one (ps_ret (pe_lst pa_nil)))
    pss_nil)
    (pss_cons (ps_set (i := 2) scReadNodes.nd rfl (Or.inl rfl) (pe_lst pa_nil))
    (pss_cons (ps_for PassesOwn.leaving rfl (pi_enum (by rfl) z_enumerate (pa_cons (pe_split (pv 1) pe_str) pa_nil)) (pg_tup (by rfl) (pgs_cons (pg_name (i := 3) scReadNodes.nd rfl (Or.inl rfl)) (pgs_cons (pg_name (i := 4) scReadNodes.nd rfl (Or.inl rfl)) pgs_nil)))
    (pss_cons (ps_asg (pe_partition (pv 4) pe_str) (pg_tup (by rfl) (pgs_cons (pg_name (i := 5) scReadNodes.nd rfl (Or.inl rfl)) (pgs_cons (pg_name (i := 6) scReadNodes.nd rfl (Or.inl rfl)) (pgs_cons (pg_name (i := 7) scReadNodes.nd rfl (Or.inl rfl)) pgs_nil)))))
    (pss_cons (ps_set (i := 8) scReadNodes.nd rfl (Or.inl rfl) (pe_tup (pa_cons (pe_call GNumberOf (hr.mono (by decide)) rfl ANumberOf.m ANumberOf.kp ANumberOf.b .nil pass0 (pa_cons (pv 5) pa_nil)) (pa_cons (pe_call GNumberOf (hr.mono (by decide)) rfl ANumberOf.m ANumberOf.kp ANumberOf.b .nil pass0 (pa_cons (pv 7) pa_nil)) pa_nil))))
    (pss_cons (ps_if (pt_not (pt_val (pe_call GIsTreeNode (hr.mono (by decide)) rfl AIsTreeNode.m AIsTreeNode.kp AIsTreeNode.b .nil pass0 (pa_cons (pv 0) (pa_cons (pv 8) pa_nil)))))
    (pss_one (ps_raise rfl (takes_of rfl rfl rfl rfl) (pmk_sup XInvalidText (hr.mono (by decide)) rfl (pa_cons (pv 3) pa_nil))))
    pss_nil)
    (pss_one (ps_expr (pe_bm PySem.F.plainAttrs_list PySem.F.slot_list_append PySem.F.type_list_append mt_append (pv 2) (pa_cons (pv 8) pa_nil))))))))
    (pss_one (ps_ret (pv 2)))))))), ?_⟩
  exact ⟨_, rfl, _, t1, rfl, h1, .inr ⟨e, q⟩⟩
end
end LT

namespace LT
open PySem PySem.Spec PyProof.Rows L2
theorem ne_no {x y : V} (h : x = y) : V.bl (!decide (x = y)) = V.bl false := by rw [decide_eq_true h]; rfl
/-- what the top says of a class of errors that is caught: L is LogError -/
structure CK (K : PySem.W.Frag) (Cs : List Addr) (L C : Addr) (nm : Str) : Prop where
  e : ExcC K C
  kt : ∃ bs, Kit K C Cs bs ∧ ((clsNames.zip bs).filter fun x => x.2).map (fun x => x.1) = [nm]
  v : PySem.W.kitOne K (.ref C) (.type "ValueError") = some true
  ln : nm.length ≤ 100
  x : PySem.W.exmOne K (.ref C) (.ref L) = some true
def Plain (nm : Str) : Prop := nm ≠ "InvalidSpans" ∧ nm ≠ "InvalidNodes" ∧ nm ≠ "InvalidBounds" ∧ nm ≠ "InvalidText" ∧ nm ≠ "OverBudget" ∧ nm ++ ("" : Str) = nm
/-- a class with a field -/
structure CF (K : PySem.W.Frag) (C : Addr) (fld : Str) : Prop where
  x : XfC K C
  no : PySem.W.findIn K (.ref C) fld = some none
section
variable {K : PySem.W.Frag} {Cs : List Addr} {L C a : Addr} {nm : Str} {G : Hp} {Q : VK}
theorem CK.plain (k : CK K Cs L C nm) (p : Plain nm) (h : G a = some (ExK (.ref C) none a)) (q : ∀ H', Same G H' → Q (.str nm) H') : spClass K Cs [.ref a] G Q E0 := by
  obtain ⟨bs, k1, k2⟩ := k.kt
  obtain ⟨n1, n2, n3, n4, n5, n6⟩ := p
  exact ⟨a, C, none, bs, nm, nm, rfl, .inl ⟨rfl, h⟩, k.e, k1, k.v, k2, k.ln, .inl ⟨n1, n2, n3, n4, n5, n6, rfl⟩, q⟩
theorem look1 {f : Str} {y : V} : ([(f, y)] : List (Str × V)).lookup f = some y := by
  simp [List.lookup]
theorem CK.item {d : Addr} {y : V} (k : CK K Cs L C nm) (c : CF K C "item") (hn : nm = "InvalidSpans" ∨ nm = "InvalidNodes" ∨ nm = "InvalidBounds") (h : G a = some (ExK (.ref C) (some d) a)) (hd : G d = some (.xd [("item", y)])) (o : reprOk y) (l : (reprS y).length ≤ 100)
    (q : ∀ H', Same G H' → Q (.str (nm ++ (" " : Str) ++ reprS y)) H') : spClass K Cs [.ref a] G Q E0 := by
  obtain ⟨bs, k1, k2⟩ := k.kt
  exact ⟨a, C, some [("item", y)], bs, nm, _, rfl, .inr ⟨d, _, rfl, h, hd⟩, k.e, k1, k.v, k2, k.ln, .inr ⟨_, y, rfl, c.x, o, l, .inl ⟨⟨hn, c.no, look1⟩, rfl⟩⟩, q⟩
theorem CK.part {d : Addr} {y : V} (k : CK K Cs L C nm) (c : CF K C "part") (hn : nm = "InvalidText") (h : G a = some (ExK (.ref C) (some d) a)) (hd : G d = some (.xd [("part", y)])) (o : reprOk y) (l : (reprS y).length ≤ 100)
    (q : ∀ H', Same G H' → Q (.str (("InvalidText " : Str) ++ reprS y)) H') : spClass K Cs [.ref a] G Q E0 := by
  obtain ⟨bs, k1, k2⟩ := k.kt
  exact ⟨a, C, some [("part", y)], bs, nm, _, rfl, .inr ⟨d, _, rfl, h, hd⟩, k.e, k1, k.v, k2, k.ln, .inr ⟨_, y, rfl, c.x, o, l, .inr (.inl ⟨⟨hn, c.no, look1⟩, rfl⟩)⟩, q⟩
theorem CK.count {d : Addr} {y : V} (k : CK K Cs L C nm) (c : CF K C "count") (hn : nm = "OverBudget") (h : G a = some (ExK (.ref C) (some d) a)) (hd : G d = some (.xd [("count", y)])) (o : reprOk y) (l : (reprS y).length ≤ 100)
    (q : ∀ H', Same G H' → Q (.str (nm ++ ((" " : Str) ++ reprS y))) H') : spClass K Cs [.ref a] G Q E0 := by
  obtain ⟨bs, k1, k2⟩ := k.kt
  exact ⟨a, C, some [("count", y)], bs, nm, _, rfl, .inr ⟨d, _, rfl, h, hd⟩, k.e, k1, k.v, k2, k.ln, .inr ⟨_, y, rfl, c.x, o, l, .inr (.inr ⟨⟨hn, c.no, look1⟩, rfl⟩)⟩, q⟩
end
/-- the word of a list of nodes that is wrong -/
def wNode (y : V) : Str := ("InvalidNodes" : Str) ++ (" " : Str) ++ reprS y
theorem rep_nat {i : Nat} (h : i ≤ 10 ^ 6) : reprOk (.int (i : Int)) ∧ (reprS (.int (i : Int))).length ≤ 100 := by
  have d66 : (10 : Nat) ^ 6 < 10 ^ 66 := by decide
  refine ⟨?_, ?_⟩
  · show ((i : Int)).natAbs.log2 < 1920
    by_cases z : ((i : Int)).natAbs = 0
    · rw [z]; decide
    · exact Nat.lt_of_lt_of_le ((Nat.log2_lt (k := 250) z).mpr (Nat.lt_of_lt_of_le (show ((i : Int)).natAbs < 10 ^ 66 by omega) (by decide))) (by decide)
  · have e := int_text_length_le10 (a := (i : Int)) (k := 66) (by decide) (by omega)
    show (Str.ofString (toString (i : Int))).length ≤ 100
    rw [PySem.ofString_length]
    omega
theorem rep_non : reprOk .non ∧ (reprS .non).length ≤ 100 := ⟨trivial, by decide +kernel⟩
end LT

namespace LT
open PySem PySem.Spec PyProof.Rows L2
def OutW (K : PySem.W.Frag) (H : Hp) (v1 v2 : V) (wd : Str) : Prop := (inRange 1 top30 v1 = false ∧ wd = "InvalidSize") ∨ ∃ n : Nat, v1 = .int n ∧ 1 ≤ n ∧ n ≤ 10 ^ 30 ∧
  ((NodesNo K H 0 4000 v2 ∧ wd = wNode .non) ∨ (∃ i, NodesAt K H n 0 4000 v2 i ∧ wd = wNode (.int ((i : Nat) : Int))) ∨ (wd = "fine" ∧ ∃ p xs S, v2 = .ref p ∧ H p = some (.lst xs) ∧ All2 (Nd H) xs S ∧ S.length ≤ 4000 ∧ ∀ x ∈ S, isN n x))
def spLawWord (K : PySem.W.Frag) : Sp := fun vs H Q _ => ∃ (v1 v2 : V) (t1 : String) (d : PyData) (dk : Bool) (k : Nat) (wd : Str), vs = [v1, v2] ∧ Pl K H v1 t1 ∧ k ≤ 20 ∧ Rp dk k H v2 d ∧ Tn sizeLine d ∧ OutW K H v1 v2 wd ∧ ∀ H', Same H H' → Q (.str wd) H'
section
variable {P : Program} {w : World} {K : PySem.W.Frag} {mg : Str → Option Value} {base : Heap} {CS CI CLogError : Addr} {Cs : List Addr}
theorem ok_law_word {f g0 g3 : Addr} {fd d0 d3 : FuncData} (F : Fun K "_law_word" "_law_word" sLawWord f fd) (XLogError : GF mg "LogError" CLogError) (KS : CK K Cs CLogError CS "InvalidSize") (KI : CK K Cs CLogError CI "InvalidNodes") (FI : CF K CI "item")
    (GXShowNodes : FnOk P w K mg base (L2.CX P w) 5 g0 d0 ["size", "nodes"] (fun vs H Q E => spShow vs H Q E ∨ spShowX K CS CI vs H Q E)) (AShowNodes : At K mg "show_nodes" g0 d0 ["size", "nodes"])
    (GLawClass : FnOk P w K mg base CX0 1 g3 d3 ["caught"] (spClass K Cs)) (ALawClass : At K mg "_law_class" g3 d3 ["caught"]) (z_repr : mg "repr" = none) : GOk P w K mg base 6 f fd ["many", "some"] (spLawWord K) := by
  refine okG F scLawWord (fun vs H Q E h => ?_) (fun cdv A outer s H vs Q hg hr h => ?_)
  · obtain ⟨_, _, _, _, _, _, _, rfl, _⟩ := h
    rfl
  obtain ⟨v1, v2, t1, d, dk, k, wd, rfl, h1, hk, h2, ht, ho, q⟩ := h
  refine ⟨_, (pss_cons (ps_par (i := 2) (j := 3) (by rfl) scLawWord.nd rfl rfl (by decide) rfl rfl (pa_cons pe_non (pa_cons (pe_callB (call_rp hg (units1 hr)) (by rfl) z_repr (by decide +kernel) (pa_cons (pv 1) pa_nil)) pa_nil)) (by rfl))
    (pss_cons (ps_try_keep (i := 4) rfl rfl rfl scLawWord.nd rfl rfl ⟨rfl, by decide, .inl XLogError.g⟩ takes0 (fun W pn xe tk _ => (pss_one (ps_expr (pe_callS GXShowNodes (hr.mono (by decide)) rfl AShowNodes.m AShowNodes.kp AShowNodes.b (fun σ => passAt tk σ) (pa_cons (pv 0) (pa_cons (pv 1) pa_nil)))))) (fun a oe cls d pn hz hf => (pss_one (ps_set (i := 2) scLawWord.nd rfl (Or.inl rfl) (pv 4)))))
    (pss_cons (ps_if (pt_cmpR op_ne (pe_callB (call_rp hg (units1 hr)) (by rfl) z_repr (by decide +kernel) (pa_cons (pv 1) pa_nil)) (pv 3) (nomark _))
    (pss_one (ps_ret pe_str))
    pss_nil)
    (pss_one (ps_ret (pe_ifExp (pt_cmpR op_isN (pv 2) pe_non (nomark _)) pe_str (pe_call GLawClass (hr.mono (by decide)) rfl ALawClass.m ALawClass.kp ALawClass.b .nil pass0 (pa_cons (pv 2) pa_nil)))))))), ?_⟩
  refine ⟨_, rfl, v2, d, dk, k, rfl, hk, h2, ht.1, ht.2, ?_⟩
  have pS : Plain "InvalidSize" := ⟨by decide +kernel, by decide +kernel, by decide +kernel, by decide +kernel, by decide +kernel, by decide +kernel⟩
  rcases ho with ⟨e, rfl⟩ | ⟨n, rfl, n1, h30, ⟨hno, rfl⟩ | ⟨i, hat, rfl⟩ | ⟨rfl, p, xs, S, rfl, hp, hx, l4, hS⟩⟩
  · refine ⟨_, _, rfl, ?_⟩
    refine ⟨_, rfl, _, rfl, .inr ⟨v1, v2, t1, rfl, h1, .inl ⟨e, ⟨true, KS.x, fun _ a na => ⟨_, rfl, fun na2 => ?_⟩, fun z => nomatch z⟩⟩⟩⟩
    have s2 := same_upd (o := ExK (.ref CS) none a) na2
    refine ⟨_, rfl, v2, d, dk, k, rfl, hk, h2.same s2, ht.1, ht.2, _, rfl, rfl, false, ne_no rfl, ?_⟩
    exact ⟨_, rfl, rfl, false, rfl, _, rfl, KS.plain pS upd_same fun H' s' => q H' (s2.trans s')⟩
  · refine ⟨_, _, rfl, ?_⟩
    refine ⟨_, rfl, _, rfl, .inr ⟨_, v2, t1, rfl, h1, .inr ⟨n, rfl, n1, h30, .inl ⟨hno, fun dd nd => ⟨true, KI.x, fun _ a na => ⟨_, rfl, fun na2 => ?_⟩, fun z => nomatch z⟩⟩⟩⟩⟩
    have s1 := same_upd (o := .xd [("item", .non)]) nd
    have s2 := same_upd (o := ExK (.ref CI) (some dd) a) na2
    have s12 := s1.trans s2
    refine ⟨_, rfl, v2, d, dk, k, rfl, hk, h2.same s12, ht.1, ht.2, _, rfl, rfl, false, ne_no rfl, ?_⟩
    exact ⟨_, rfl, rfl, false, rfl, _, rfl, KI.item FI (.inr (.inl rfl)) upd_same (s2 _ _ upd_same) rep_non.1 rep_non.2 fun H' s' => q H' (s12.trans s')⟩
  · refine ⟨_, _, rfl, ?_⟩
    have i6 : i ≤ 10 ^ 6 := by
      obtain ⟨p, xs, x, _, _, _, l, _, hi, _⟩ := hat
      have := (List.getElem?_eq_some_iff.mp hi).1
      omega
    refine ⟨_, rfl, _, rfl, .inr ⟨_, v2, t1, rfl, h1, .inr ⟨n, rfl, n1, h30, .inr ⟨i, hat, fun H1 dd s0 nd => ⟨true, KI.x, fun _ a na => ⟨_, rfl, fun na2 => ?_⟩, fun z => nomatch z⟩⟩⟩⟩⟩
    have s1 := same_upd (o := .xd [("item", .int ((i : Nat) : Int))]) nd
    have s2 := same_upd (o := ExK (.ref CI) (some dd) a) na2
    have s12 := s0.trans (s1.trans s2)
    refine ⟨_, rfl, v2, d, dk, k, rfl, hk, h2.same s12, ht.1, ht.2, _, rfl, rfl, false, ne_no rfl, ?_⟩
    exact ⟨_, rfl, rfl, false, rfl, _, rfl, KI.item FI (.inr (.inl rfl)) upd_same (s2 _ _ upd_same) (rep_nat i6).1 (rep_nat i6).2 fun H' s' => q H' (s12.trans s')⟩
  · refine ⟨_, _, rfl, ?_⟩
    refine ⟨_, rfl, _, rfl, .inl ⟨n, p, xs, S, rfl, n1, h30, hp, hx, l4, hS, fun H1 s1 => ?_⟩⟩
    refine ⟨_, rfl, _, d, dk, k, rfl, hk, h2.same s1, ht.1, ht.2, _, rfl, rfl, false, ne_no rfl, ?_⟩
    exact ⟨_, rfl, rfl, true, rfl, q _ s1⟩
/-- read_nodes: a wrong size, or nodes -/
def spLawRead (K : PySem.W.Frag) : Sp := fun vs H Q _ => ∃ (v1 v2 : V) (t1 : String) (wd : Str), vs = [v1, v2] ∧ Pl K H v1 t1 ∧
  ((inRange 1 top30 v1 = false ∧ wd = "InvalidSize") ∨ (∃ (n : Nat) (S : List (Nat × Nat)), v1 = .int n ∧ v2 = .str (nTxs S) ∧ 1 ≤ n ∧ n ≤ 10 ^ 30 ∧ S.length ≤ 5000 ∧ (∀ x ∈ S, isN n x) ∧ wd = "fine")) ∧ ∀ H', Same H H' → Q (.str wd) H'
theorem ok_law_read {f g0 g3 : Addr} {fd d0 d3 : FuncData} (F : Fun K "_law_read" "_law_read" sLawRead f fd) (XLogError : GF mg "LogError" CLogError) (KS : CK K Cs CLogError CS "InvalidSize")
    (GXReadNodes : FnOk P w K mg base (L2.CX P w) 4 g0 d0 ["size", "text"] (fun vs H Q E => spRead vs H Q E ∨ spReadX K CS vs H Q E)) (AReadNodes : At K mg "read_nodes" g0 d0 ["size", "text"])
    (GLawClass : FnOk P w K mg base CX0 1 g3 d3 ["caught"] (spClass K Cs)) (ALawClass : At K mg "_law_class" g3 d3 ["caught"]) : FnOk P w K mg base CX0 5 f fd ["many", "text"] (spLawRead K) := by
  refine F.ok scLawRead (fun vs H Q E h => ?_) (fun cdv A outer s H vs Q E hr h => ?_)
  · obtain ⟨_, _, _, _, rfl, _⟩ := h
    rfl
  obtain ⟨v1, v2, t1, wd, rfl, h1, ho, q⟩ := h
  refine ⟨_, (pss_cons (ps_set (i := 2) scLawRead.nd rfl (Or.inl rfl) pe_non)
    (pss_cons (ps_try_keep (i := 3) rfl rfl rfl scLawRead.nd rfl rfl ⟨rfl, by decide, .inl XLogError.g⟩ takes0 (fun W pn xe tk _ => (pss_one (ps_expr (pe_callS GXReadNodes (hr.mono (by decide)) rfl AReadNodes.m AReadNodes.kp AReadNodes.b (fun σ => passAt tk σ) (pa_cons (pv 0) (pa_cons (pv 1) pa_nil)))))) (fun a oe cls d pn hz hf => (pss_one (ps_set (i := 2) scLawRead.nd rfl (Or.inl rfl) (pv 3)))))
    (pss_one (ps_ret (pe_ifExp (pt_cmpR op_isN (pv 2) pe_non (nomark _)) pe_str (pe_call GLawClass (hr.mono (by decide)) rfl ALawClass.m ALawClass.kp ALawClass.b .nil pass0 (pa_cons (pv 2) pa_nil))))))), ?_⟩
  have pS : Plain "InvalidSize" := ⟨by decide +kernel, by decide +kernel, by decide +kernel, by decide +kernel, by decide +kernel, by decide +kernel⟩
  rcases ho with ⟨e, rfl⟩ | ⟨n, S, rfl, rfl, n1, h30, l5, hS, rfl⟩
  · refine ⟨_, rfl, _, rfl, .inr ⟨v1, v2, t1, rfl, h1, e, ⟨true, KS.x, fun _ a na => ⟨_, rfl, fun na2 => ?_⟩, fun z => nomatch z⟩⟩⟩
    have s2 := same_upd (o := ExK (.ref CS) none a) na2
    exact ⟨_, rfl, rfl, false, rfl, _, rfl, KS.plain pS upd_same fun H' s' => q H' (s2.trans s')⟩
  · refine ⟨_, rfl, _, rfl, .inl ⟨n, S, rfl, n1, h30, l5, hS, fun H1 r ys s1 nr hr1 hy => ?_⟩⟩
    exact ⟨_, rfl, rfl, true, rfl, q _ s1⟩
end
end LT

namespace LT
open PySem PySem.Spec PyProof.Rows L2
/-! ### lists of values that are no nodes, and can be shown -/
def sd : V → PyData
  | .bl b => .bool b
  | .int i => .int i
  | .str x => .str x
  | _ => .none
def isSc : V → Bool
  | .non => true
  | .bl _ => true
  | .int _ => true
  | .str _ => true
  | _ => false
def okS (v : V) : Prop := isSc v = true ∧ Tn 70 (sd v)
theorem okS_non : okS .non := ⟨rfl, tn_none.le (by decide)⟩
theorem okS_bl (b : Bool) : okS (.bl b) := ⟨rfl, (tn_bool b).le (by decide)⟩
theorem okS_int {i : Int} (h : i.natAbs < 10 ^ 66) : okS (.int i) := ⟨rfl, tn_int h⟩
theorem okS_str {x : Str} (h : (reprText x).length ≤ 70) : okS (.str x) := ⟨rfl, by simp only [sd, PyData.showable], by simp only [sd, PyData.shown]; exact h⟩
def okAll : List V → Prop
  | [] => True
  | x :: xs => okS x ∧ okAll xs
theorem rpz_sd {dk : Bool} {H : Hp} {v : V} (h : isSc v = true) : RpZ dk H v (sd v) := by
  cases v with
  | non => exact .inl ⟨rfl, rfl⟩
  | bl b => exact .inr (.inl ⟨b, rfl, rfl⟩)
  | int i => exact .inr (.inr (.inl ⟨i, rfl, rfl⟩))
  | str x => exact .inr (.inr (.inr (.inl ⟨x, rfl, rfl⟩)))
  | _ => cases h
theorem okAll_rp {dk : Bool} {H : Hp} : ∀ {xs : List V}, okAll xs → All2 (Rp dk 0 H) xs (xs.map sd)
  | [], _ => .nil
  | x :: xs, h => .cons (rpz_sd h.1.1) (okAll_rp h.2)
theorem okAll_tn : ∀ {xs : List V}, okAll xs → ∀ d ∈ xs.map sd, Tn 70 d
  | [], _, d, m => by cases m
  | x :: xs, h, d, m => by
    rw [List.map_cons] at m
    rcases List.mem_cons.mp m with rfl | m
    · exact h.1.2
    · exact okAll_tn h.2 d m
/-- no node, and can be shown -/
def Bx (K : PySem.W.Frag) (H : Hp) (n : Nat) (v : V) : Prop := Ask K H n v false ∧ ∃ dk d, Rp dk 2 H v d ∧ Tn 600 d
theorem Bx.same {K : PySem.W.Frag} {H H' : Hp} {n : Nat} {v : V} (h : Bx K H n v) (s : Same H H') : Bx K H' n v := by
  obtain ⟨a, dk, d, r, t⟩ := h
  exact ⟨a.same s, dk, d, r.same s, t⟩
def BadX (K : PySem.W.Frag) (H : Hp) (n : Nat) (l : List V) : Prop := ∀ v ∈ l, Bx K H n v
section
variable {K : PySem.W.Frag} {H : Hp} {n : Nat} {l m : List V} {p : Addr} {xs : List V} {v v1 v2 : V} {t1 t2 : String}
theorem BadX.same {H' : Hp} (h : BadX K H n l) (s : Same H H') : BadX K H' n l := fun v m => (h v m).same s
theorem BadX.nil : BadX K H n [] := fun _ h => by cases h
theorem BadX.app (h : BadX K H n l) (k : BadX K H n m) : BadX K H n (l ++ m) := fun u hu => (List.mem_append.mp hu).elim (h u) (k u)
theorem BadX.put (h : BadX K H n l) (a : Bx K H n v) : BadX K H n (l ++ [v]) := h.app fun u m => by
  rw [List.mem_singleton] at m
  rw [m]
  exact a
theorem BadX.sc {t : String} (h : BadX K H n l) (a : Pl K H v t) (ht : t ≠ "tuple") (o : okS v) : BadX K H n (l ++ [v]) :=
  h.put ⟨.kind a ht, false, sd v, .inl (rpz_sd o.1), o.2.le (by decide)⟩
theorem bx_tn (o : okAll xs) (hl : xs.length ≤ 3) : Tn 600 (.tuple (xs.map sd)) ∧ Tn 600 (.list (xs.map sd)) := by
  have l2 : (xs.map sd).length ≤ 3 := by rw [List.length_map]; exact hl
  have e : (xs.map sd).length * (70 + 2) + 3 ≤ 600 := by omega
  exact ⟨(tn_tup (okAll_tn o)).le e, (tn_list (okAll_tn o)).le e⟩
theorem rp_tup {dk : Bool} (e : H p = some (.tup xs)) (o : okAll xs) : Rp dk 1 H (.ref p) (.tuple (xs.map sd)) := .inr (.inl ⟨p, xs, _, rfl, e, rfl, okAll_rp o⟩)
theorem rp_lst (e : H p = some (.lst xs)) (o : okAll xs) : Rp false 1 H (.ref p) (.list (xs.map sd)) := .inr (.inr ⟨p, xs, _, rfl, e, rfl, (fun z => nomatch z), okAll_rp o⟩)
theorem BadX.lst (h : BadX K H n l) (np : H p = none) (hl : xs.length ≤ 3) (o : okAll xs) : BadX K (upd H p (.lst xs)) n (l ++ [.ref p]) :=
  (h.same (same_upd np)).put ⟨.kind (.lst upd_same) (by decide), false, _, (rp_lst upd_same o).up, (bx_tn o hl).2⟩
theorem BadX.dict (h : BadX K H n l) (np : H p = none) : BadX K (upd H p (.dK [])) n (l ++ [.ref p]) :=
  (h.same (same_upd np)).put ⟨.kind (.dict upd_same) (by decide), true, _, .inl (.inr (.inr (.inr (.inr ⟨rfl, p, rfl, upd_same, rfl⟩)))), tn_dict.le (by decide)⟩
theorem BadX.long (h : BadX K H n l) (np : H p = none) (hl : xs.length ≤ 3) (hk : xs.length ≠ 2) (o : okAll xs) : BadX K (upd H p (.tup xs)) n (l ++ [.ref p]) :=
  (h.same (same_upd np)).put ⟨.long upd_same hk (by omega), false, _, (rp_tup upd_same o).up, (bx_tn o hl).1⟩
theorem BadX.pair (h : BadX K H n l) (np : H p = none) (p1 : ∀ H, Pl K H v1 t1) (p2 : ∀ H, Pl K H v2 t2) (e : tnV n v1 v2 = false) (o : okAll [v1, v2]) : BadX K (upd H p (.tup [v1, v2])) n (l ++ [.ref p]) := by
  refine (h.same (same_upd np)).put ⟨?_, false, _, (rp_tup upd_same o).up, (bx_tn o (Nat.le_succ 2)).1⟩
  rw [← e]
  exact .pair upd_same (p1 _) (p2 _)
/-- a tuple within a pair -/
theorem BadX.nest {a : Addr} {ys : List V} (h : BadX K H n l) (hb : H a = some (.tup ys)) (hy : ys.length ≤ 3) (oy : okAll ys) (np : H p = none) (p2 : ∀ H, Pl K H v2 t2) (o : okS v2) : BadX K (upd H p (.tup [.ref a, v2])) n (l ++ [.ref p]) := by
  have s := same_upd (o := .tup [.ref a, v2]) np
  refine (h.same s).put ⟨?_, false, .tuple [.tuple (ys.map sd), sd v2], .inr (.inl ⟨p, _, _, rfl, upd_same, rfl, .cons (rp_tup (s _ _ hb) oy) (.cons (.inl (rpz_sd o.1)) .nil)⟩), ?_⟩
  · exact .pair (v1 := .ref a) (v2 := v2) upd_same (.tup (s _ _ hb)) (p2 _)
  · have l2 : (ys.map sd).length ≤ 3 := by rw [List.length_map]; exact hy
    have e : (ys.map sd).length * (70 + 2) + 3 ≤ 250 := by omega
    refine (tn_tup (n := 250) fun d m => ?_).le (by show 2 * (250 + 2) + 3 ≤ 600; decide)
    rcases List.mem_cons.mp m with rfl | m
    · exact (tn_tup (okAll_tn oy)).le e
    · rw [List.mem_singleton] at m
      rw [m]
      exact o.2.le (by decide)
theorem BadX.nest1 {a : Addr} {ys : List V} {lst : Bool} (h : BadX K H n l) (hb : H a = some (.tup ys)) (hy : ys.length ≤ 3) (oy : okAll ys) (np : H p = none) : BadX K (upd H p (.tup [.ref a])) n (l ++ [.ref p]) := by
  have s := same_upd (o := .tup [.ref a]) np
  refine (h.same s).put ⟨.long upd_same (by show (1 : Nat) ≠ 2; decide) (by show (1 : Nat) ≤ 1000; decide), false, .tuple [.tuple (ys.map sd)], .inr (.inl ⟨p, _, _, rfl, upd_same, rfl, .cons (rp_tup (s _ _ hb) oy) .nil⟩), ?_⟩
  have l2 : (ys.map sd).length ≤ 3 := by rw [List.length_map]; exact hy
  have e : (ys.map sd).length * (70 + 2) + 3 ≤ 250 := by omega
  refine (tn_tup (n := 250) fun d m => ?_).le (by show 1 * (250 + 2) + 3 ≤ 600; decide)
  rw [List.mem_singleton] at m
  rw [m]
  exact (tn_tup (okAll_tn oy)).le e
theorem BadX.nestL {a : Addr} {ys : List V} (h : BadX K H n l) (hb : H a = some (.tup ys)) (hy : ys.length ≤ 3) (oy : okAll ys) (np : H p = none) : BadX K (upd H p (.lst [.ref a])) n (l ++ [.ref p]) := by
  have s := same_upd (o := .lst [.ref a]) np
  refine (h.same s).put ⟨.kind (.lst upd_same) (by decide), false, .list [.tuple (ys.map sd)], .inr (.inr ⟨p, _, _, rfl, upd_same, rfl, (fun z => nomatch z), .cons (rp_tup (s _ _ hb) oy) .nil⟩), ?_⟩
  have l2 : (ys.map sd).length ≤ 3 := by rw [List.length_map]; exact hy
  have e : (ys.map sd).length * (70 + 2) + 3 ≤ 250 := by omega
  refine (tn_list (n := 250) fun d m => ?_).le (by show 1 * (250 + 2) + 3 ≤ 600; decide)
  rw [List.mem_singleton] at m
  rw [m]
  exact (tn_tup (okAll_tn oy)).le e
end
theorem tn_no {n b e : Nat} (h : ¬ isN n (b, e)) : tnV n (.int (b : Int)) (.int (e : Int)) = false := by
  rw [tn_nat37]
  exact decide_eq_false h
end LT

namespace LT
open PySem PySem.Spec PyProof.Rows L2
theorem isN_lb {n b e : Nat} (h : isN n (b, e)) : 2 ^ lb (e - b) ∣ b ∧ (e - b = 2 ^ lb (e - b) ∨ b + (e - b) = n) := h.2.2
theorem no_of {n b e c : Nat} (hl : lb (e - b) = c) (h : ¬ (2 ^ c ∣ b ∧ (e - b = 2 ^ c ∨ b + (e - b) = n))) : tnV n (.int (b : Int)) (.int (e : Int)) = false := tn_no fun k => h (hl ▸ isN_lb k)
theorem no13 {n : Nat} (_h : 9 ≤ n) : tnV n (.int 1) (.int 3) = false := no_of (b := 1) (e := 3) (c := 1) (by decide +kernel) (by omega)
theorem no35 {n : Nat} (_h : 9 ≤ n) : tnV n (.int 3) (.int 5) = false := no_of (b := 3) (e := 5) (c := 1) (by decide +kernel) (by omega)
theorem no03 {n : Nat} (h : 9 ≤ n) : tnV n (.int 0) (.int 3) = false := no_of (b := 0) (e := 3) (c := 2) (by decide +kernel) (by omega)
theorem no25 {n : Nat} (h : 9 ≤ n) : tnV n (.int 2) (.int 5) = false := no_of (b := 2) (e := 5) (c := 2) (by decide +kernel) (by omega)
theorem no05 {n : Nat} (h : 9 ≤ n) : tnV n (.int 0) (.int 5) = false := no_of (b := 0) (e := 5) (c := 3) (by decide +kernel) (by omega)
theorem no47 {n : Nat} (h : 9 ≤ n) : tnV n (.int 4) (.int 7) = false := no_of (b := 4) (e := 7) (c := 2) (by decide +kernel) (by omega)
theorem no1n {n : Nat} (h : 9 ≤ n) : tnV n (.int 1) (.int (n : Int)) = false := tn_no (b := 1) fun k => by
  have d := (isN_lb k).1
  have g := lb_ge (n - 1)
  have := Nat.le_of_dvd (by decide) d
  omega
theorem big60 {n : Nat} (hn : n ≤ 10 ^ 30) : tnV n (.int 0) (.int (10 ^ (60 : Int).toNat)) = false := tn_out (fun k => by
  have h := k.2.2
  have e : (10 : Int) ^ (60 : Int).toNat = 10 ^ 60 := by decide
  rw [e] at h
  omega)
section
variable {P : Program} {w : World} {K : PySem.W.Frag} {mg : Str → Option Value} {base : Heap}
def spBadN (K : PySem.W.Frag) : Sp := fun vs H Q _ => ∃ (n : Nat), vs = [.int n] ∧ 9 ≤ n ∧ n ≤ 10 ^ 30 ∧ ∀ (H' : Hp) (p : Addr) (xs : List V), Same H H' → H' p = some (.lst xs) → BadX K H' n xs → xs.length ≤ 40 → Q (.ref p) H'
theorem ok_law_bad_nodes {f : Addr} {fd : FuncData} (F : Fun K "_law_bad_nodes" "_law_bad_nodes" sLawBadNodes f fd) : FnOk P w K mg base CX0 1 f fd ["many"] (spBadN K) := by
  refine F.ok scLawBadNodes (fun vs H Q E h => ?_) (fun cdv A outer s H vs Q E hr h => ?_)
  · obtain ⟨_, rfl, _⟩ := h
    rfl
  obtain ⟨n, rfl, n1, hn, q⟩ := h
  refine ⟨_, (pss_cons (ps_set (i := 1) scLawBadNodes.nd rfl (Or.inl rfl) (pe_lst (pa_cons pe_non (pa_cons pe_int (pa_cons pe_str (pa_cons (pe_lst pa_nil) (pa_cons (pe_tup pa_nil) (pa_cons pe_dnewK (pa_cons (pe_lst (pa_cons pe_int (pa_cons pe_int pa_nil))) (pa_cons (pe_tup (pa_cons pe_int pa_nil)) (pa_cons (pe_tup (pa_cons pe_int (pa_cons pe_int (pa_cons pe_int pa_nil)))) (pa_cons (pe_tup (pa_cons pe_int (pa_cons pe_bl pa_nil))) (pa_cons (pe_tup (pa_cons pe_bl (pa_cons pe_int pa_nil))) (pa_cons (pe_tup (pa_cons pe_str (pa_cons pe_int pa_nil))) (pa_cons (pe_tup (pa_cons pe_int (pa_cons pe_str pa_nil))) (pa_cons (pe_tup (pa_cons pe_non (pa_cons pe_int pa_nil))) pa_nil))))))))))))))))
    (pss_cons (ps_set (i := 1) scLawBadNodes.nd rfl (Or.inl rfl) (pe_op op_cat (pv 1) (pe_lst (pa_cons (pe_tup (pa_cons pe_int (pa_cons pe_int pa_nil))) (pa_cons (pe_tup (pa_cons pe_int (pa_cons pe_int pa_nil))) (pa_cons (pe_tup (pa_cons pe_int (pa_cons pe_int pa_nil))) (pa_cons (pe_tup (pa_cons (pe_un un_neg pe_int) (pa_cons pe_int pa_nil))) (pa_cons (pe_tup (pa_cons (pe_un un_neg pe_int) (pa_cons pe_int pa_nil))) (pa_cons (pe_tup (pa_cons pe_int (pa_cons pe_int pa_nil))) (pa_cons (pe_tup (pa_cons pe_int (pa_cons pe_int pa_nil))) (pa_cons (pe_tup (pa_cons pe_int (pa_cons pe_int pa_nil))) (pa_cons (pe_tup (pa_cons pe_int (pa_cons pe_int pa_nil))) (pa_cons (pe_tup (pa_cons (pv 0) (pa_cons (pe_op op_add (pv 0) pe_int) pa_nil))) pa_nil)))))))))))))
    (pss_one (ps_ret (pe_op op_cat (pv 1) (pe_lst (pa_cons (pe_tup (pa_cons (pe_op op_sub (pv 0) pe_int) (pa_cons (pe_op op_add (pv 0) pe_int) pa_nil))) (pa_cons (pe_tup (pa_cons pe_int (pa_cons (pe_op op_add (pv 0) pe_int) pa_nil))) (pa_cons (pe_tup (pa_cons pe_int (pa_cons (pe_op op_pow pe_int pe_int) pa_nil))) (pa_cons (pe_tup (pa_cons pe_int (pa_cons (pv 0) pa_nil))) (pa_cons (pe_tup (pa_cons (pe_tup (pa_cons pe_int (pa_cons pe_int pa_nil))) (pa_cons pe_int pa_nil))) (pa_cons (pe_tup (pa_cons pe_int (pa_cons pe_int pa_nil))) (pa_cons (pe_tup (pa_cons pe_int (pa_cons pe_int pa_nil))) pa_nil))))))))))))), ?_⟩
  have S0 : Same H H := Same.refl _
  have T0 : Same H H := Same.refl _
  have N0 : BadX K H n [] := BadX.nil
  have N0 : BadX K H n [] := BadX.nil
  have T0 : Same H H := Same.refl _
  replace N0 := N0.sc (v := .non) (.non) (by decide) (okS_non)
  replace N0 := N0.sc (v := .int 0) (.int _) (by decide) (okS_int (by decide))
  replace N0 := N0.sc (v := .str "0-1") (.str _) (by decide) (okS_str (by decide +kernel))
  refine ⟨(by show 0 ≤ sizeLine; decide), fun a1 m1 => ?_⟩
  have Z1 := same_upd (o := .lst []) m1
  have S1 := S0.trans Z1
  have T1 := T0.trans Z1
  have N1 : BadX K (upd H a1 (.lst [])) n _ := N0.lst m1 (by decide) trivial
  generalize upd H a1 (.lst []) = G1 at Z1 S1 T1 N1 ⊢
  refine ⟨(by show 0 ≤ sizeLine; decide), fun a2 m2 => ?_⟩
  have Z2 := same_upd (o := .tup []) m2
  have S2 := S1.trans Z2
  have T2 := T1.trans Z2
  have N2 : BadX K (upd G1 a2 (.tup [])) n _ := N1.long m2 (by show (0 : Nat) ≤ 3; decide) (by show (0 : Nat) ≠ 2; decide) trivial
  generalize upd G1 a2 (.tup []) = G2 at Z2 S2 T2 N2 ⊢
  refine fun a3 m3 => ?_
  have Z3 := same_upd (o := .dK []) m3
  have S3 := S2.trans Z3
  have T3 := T2.trans Z3
  have N3 : BadX K (upd G2 a3 (.dK [])) n _ := N2.dict m3
  generalize upd G2 a3 (.dK []) = G3 at Z3 S3 T3 N3 ⊢
  refine ⟨(by show 2 ≤ sizeLine; decide), fun a4 m4 => ?_⟩
  have Z4 := same_upd (o := .lst [.int 0, .int 1]) m4
  have S4 := S3.trans Z4
  have T4 := T3.trans Z4
  have N4 : BadX K (upd G3 a4 (.lst [.int 0, .int 1])) n _ := N3.lst m4 (by decide) ⟨okS_int (by decide), ⟨okS_int (by decide), trivial⟩⟩
  generalize upd G3 a4 (.lst [.int 0, .int 1]) = G4 at Z4 S4 T4 N4 ⊢
  refine ⟨(by show 1 ≤ sizeLine; decide), fun a5 m5 => ?_⟩
  have Z5 := same_upd (o := .tup [.int 0]) m5
  have S5 := S4.trans Z5
  have T5 := T4.trans Z5
  have N5 : BadX K (upd G4 a5 (.tup [.int 0])) n _ := N4.long m5 (by show (1 : Nat) ≤ 3; decide) (by show (1 : Nat) ≠ 2; decide) ⟨okS_int (by decide), trivial⟩
  generalize upd G4 a5 (.tup [.int 0]) = G5 at Z5 S5 T5 N5 ⊢
  refine ⟨(by show 3 ≤ sizeLine; decide), fun a6 m6 => ?_⟩
  have Z6 := same_upd (o := .tup [.int 0, .int 1, .int 2]) m6
  have S6 := S5.trans Z6
  have T6 := T5.trans Z6
  have N6 : BadX K (upd G5 a6 (.tup [.int 0, .int 1, .int 2])) n _ := N5.long m6 (by show (3 : Nat) ≤ 3; decide) (by show (3 : Nat) ≠ 2; decide) ⟨okS_int (by decide), ⟨okS_int (by decide), ⟨okS_int (by decide), trivial⟩⟩⟩
  generalize upd G5 a6 (.tup [.int 0, .int 1, .int 2]) = G6 at Z6 S6 T6 N6 ⊢
  refine ⟨(by show 2 ≤ sizeLine; decide), fun a7 m7 => ?_⟩
  have Z7 := same_upd (o := .tup [.int 0, .bl true]) m7
  have S7 := S6.trans Z7
  have T7 := T6.trans Z7
  have N7 : BadX K (upd G6 a7 (.tup [.int 0, .bl true])) n _ := N6.pair m7 (fun _ => .int _) (fun _ => .bl _) rfl ⟨okS_int (by decide), ⟨okS_bl _, trivial⟩⟩
  generalize upd G6 a7 (.tup [.int 0, .bl true]) = G7 at Z7 S7 T7 N7 ⊢
  refine ⟨(by show 2 ≤ sizeLine; decide), fun a8 m8 => ?_⟩
  have Z8 := same_upd (o := .tup [.bl false, .int 1]) m8
  have S8 := S7.trans Z8
  have T8 := T7.trans Z8
  have N8 : BadX K (upd G7 a8 (.tup [.bl false, .int 1])) n _ := N7.pair m8 (fun _ => .bl _) (fun _ => .int _) rfl ⟨okS_bl _, ⟨okS_int (by decide), trivial⟩⟩
  generalize upd G7 a8 (.tup [.bl false, .int 1]) = G8 at Z8 S8 T8 N8 ⊢
  refine ⟨(by show 2 ≤ sizeLine; decide), fun a9 m9 => ?_⟩
  have Z9 := same_upd (o := .tup [.str "0", .int 1]) m9
  have S9 := S8.trans Z9
  have T9 := T8.trans Z9
  have N9 : BadX K (upd G8 a9 (.tup [.str "0", .int 1])) n _ := N8.pair m9 (fun _ => .str _) (fun _ => .int _) rfl ⟨okS_str (by decide +kernel), ⟨okS_int (by decide), trivial⟩⟩
  generalize upd G8 a9 (.tup [.str "0", .int 1]) = G9 at Z9 S9 T9 N9 ⊢
  refine ⟨(by show 2 ≤ sizeLine; decide), fun a10 m10 => ?_⟩
  have Z10 := same_upd (o := .tup [.int 0, .str "1"]) m10
  have S10 := S9.trans Z10
  have T10 := T9.trans Z10
  have N10 : BadX K (upd G9 a10 (.tup [.int 0, .str "1"])) n _ := N9.pair m10 (fun _ => .int _) (fun _ => .str _) rfl ⟨okS_int (by decide), ⟨okS_str (by decide +kernel), trivial⟩⟩
  generalize upd G9 a10 (.tup [.int 0, .str "1"]) = G10 at Z10 S10 T10 N10 ⊢
  refine ⟨(by show 2 ≤ sizeLine; decide), fun a11 m11 => ?_⟩
  have Z11 := same_upd (o := .tup [.non, .int 1]) m11
  have S11 := S10.trans Z11
  have T11 := T10.trans Z11
  have N11 : BadX K (upd G10 a11 (.tup [.non, .int 1])) n _ := N10.pair m11 (fun _ => .non) (fun _ => .int _) rfl ⟨okS_non, ⟨okS_int (by decide), trivial⟩⟩
  generalize upd G10 a11 (.tup [.non, .int 1]) = G11 at Z11 S11 T11 N11 ⊢
  refine ⟨(by show 14 ≤ sizeLine; decide), fun l1 m12 => ?_⟩
  have Z12 := same_upd (o := .lst [.non, .int 0, .str "0-1", .ref a1, .ref a2, .ref a3, .ref a4, .ref a5, .ref a6, .ref a7, .ref a8, .ref a9, .ref a10, .ref a11]) m12
  have S12 := S11.trans Z12
  have T12 := T11.trans Z12
  have N12 := N11.same Z12
  have hl1 : (upd G11 l1 (.lst [.non, .int 0, .str "0-1", .ref a1, .ref a2, .ref a3, .ref a4, .ref a5, .ref a6, .ref a7, .ref a8, .ref a9, .ref a10, .ref a11])) l1 = some (.lst [.non, .int 0, .str "0-1", .ref a1, .ref a2, .ref a3, .ref a4, .ref a5, .ref a6, .ref a7, .ref a8, .ref a9, .ref a10, .ref a11]) := upd_same
  generalize upd G11 l1 (.lst [.non, .int 0, .str "0-1", .ref a1, .ref a2, .ref a3, .ref a4, .ref a5, .ref a6, .ref a7, .ref a8, .ref a9, .ref a10, .ref a11]) = G12 at Z12 S12 T12 N12 hl1 ⊢
  have N12 : BadX K G12 n [V.non, .int 0, .str "0-1", .ref a1, .ref a2, .ref a3, .ref a4, .ref a5, .ref a6, .ref a7, .ref a8, .ref a9, .ref a10, .ref a11] := N12
  have A1 : BadX K G12 n [V.non, .int 0, .str "0-1", .ref a1, .ref a2, .ref a3, .ref a4, .ref a5, .ref a6, .ref a7, .ref a8, .ref a9, .ref a10, .ref a11] := N12
  have N12 : BadX K G12 n [] := BadX.nil
  have T12 : Same G12 G12 := Same.refl _
  refine ⟨_, rfl, (by show 2 ≤ sizeLine; decide), fun a13 m13 => ?_⟩
  have Z13 := same_upd (o := .tup [.int 0, .int 0]) m13
  have S13 := S12.trans Z13
  have T13 := T12.trans Z13
  have N13 : BadX K (upd G12 a13 (.tup [.int 0, .int 0])) n _ := N12.pair m13 (fun _ => .int _) (fun _ => .int _) (tn_out (by omega)) ⟨okS_int (by decide), ⟨okS_int (by decide), trivial⟩⟩
  generalize upd G12 a13 (.tup [.int 0, .int 0]) = G13 at Z13 S13 T13 N13 ⊢
  refine ⟨(by show 2 ≤ sizeLine; decide), fun a14 m14 => ?_⟩
  have Z14 := same_upd (o := .tup [.int 1, .int 1]) m14
  have S14 := S13.trans Z14
  have T14 := T13.trans Z14
  have N14 : BadX K (upd G13 a14 (.tup [.int 1, .int 1])) n _ := N13.pair m14 (fun _ => .int _) (fun _ => .int _) (tn_out (by omega)) ⟨okS_int (by decide), ⟨okS_int (by decide), trivial⟩⟩
  generalize upd G13 a14 (.tup [.int 1, .int 1]) = G14 at Z14 S14 T14 N14 ⊢
  refine ⟨(by show 2 ≤ sizeLine; decide), fun a15 m15 => ?_⟩
  have Z15 := same_upd (o := .tup [.int 1, .int 0]) m15
  have S15 := S14.trans Z15
  have T15 := T14.trans Z15
  have N15 : BadX K (upd G14 a15 (.tup [.int 1, .int 0])) n _ := N14.pair m15 (fun _ => .int _) (fun _ => .int _) (tn_out (by omega)) ⟨okS_int (by decide), ⟨okS_int (by decide), trivial⟩⟩
  generalize upd G14 a15 (.tup [.int 1, .int 0]) = G15 at Z15 S15 T15 N15 ⊢
  refine ⟨1, rfl, (by show 2 ≤ sizeLine; decide), fun a16 m16 => ?_⟩
  have Z16 := same_upd (o := .tup [.int (-1), .int 0]) m16
  have S16 := S15.trans Z16
  have T16 := T15.trans Z16
  have N16 : BadX K (upd G15 a16 (.tup [.int (-1), .int 0])) n _ := N15.pair m16 (fun _ => .int _) (fun _ => .int _) (tn_out (by omega)) ⟨okS_int (by omega), ⟨okS_int (by decide), trivial⟩⟩
  generalize upd G15 a16 (.tup [.int (-1), .int 0]) = G16 at Z16 S16 T16 N16 ⊢
  refine ⟨1, rfl, (by show 2 ≤ sizeLine; decide), fun a17 m17 => ?_⟩
  have Z17 := same_upd (o := .tup [.int (-1), .int 1]) m17
  have S17 := S16.trans Z17
  have T17 := T16.trans Z17
  have N17 : BadX K (upd G16 a17 (.tup [.int (-1), .int 1])) n _ := N16.pair m17 (fun _ => .int _) (fun _ => .int _) (tn_out (by omega)) ⟨okS_int (by omega), ⟨okS_int (by decide), trivial⟩⟩
  generalize upd G16 a17 (.tup [.int (-1), .int 1]) = G17 at Z17 S17 T17 N17 ⊢
  refine ⟨(by show 2 ≤ sizeLine; decide), fun a18 m18 => ?_⟩
  have Z18 := same_upd (o := .tup [.int 1, .int 3]) m18
  have S18 := S17.trans Z18
  have T18 := T17.trans Z18
  have N18 : BadX K (upd G17 a18 (.tup [.int 1, .int 3])) n _ := N17.pair m18 (fun _ => .int _) (fun _ => .int _) (no13 n1) ⟨okS_int (by decide), ⟨okS_int (by decide), trivial⟩⟩
  generalize upd G17 a18 (.tup [.int 1, .int 3]) = G18 at Z18 S18 T18 N18 ⊢
  refine ⟨(by show 2 ≤ sizeLine; decide), fun a19 m19 => ?_⟩
  have Z19 := same_upd (o := .tup [.int 3, .int 5]) m19
  have S19 := S18.trans Z19
  have T19 := T18.trans Z19
  have N19 : BadX K (upd G18 a19 (.tup [.int 3, .int 5])) n _ := N18.pair m19 (fun _ => .int _) (fun _ => .int _) (no35 n1) ⟨okS_int (by decide), ⟨okS_int (by decide), trivial⟩⟩
  generalize upd G18 a19 (.tup [.int 3, .int 5]) = G19 at Z19 S19 T19 N19 ⊢
  refine ⟨(by show 2 ≤ sizeLine; decide), fun a20 m20 => ?_⟩
  have Z20 := same_upd (o := .tup [.int 0, .int 3]) m20
  have S20 := S19.trans Z20
  have T20 := T19.trans Z20
  have N20 : BadX K (upd G19 a20 (.tup [.int 0, .int 3])) n _ := N19.pair m20 (fun _ => .int _) (fun _ => .int _) (no03 n1) ⟨okS_int (by decide), ⟨okS_int (by decide), trivial⟩⟩
  generalize upd G19 a20 (.tup [.int 0, .int 3]) = G20 at Z20 S20 T20 N20 ⊢
  refine ⟨(by show 2 ≤ sizeLine; decide), fun a21 m21 => ?_⟩
  have Z21 := same_upd (o := .tup [.int 2, .int 5]) m21
  have S21 := S20.trans Z21
  have T21 := T20.trans Z21
  have N21 : BadX K (upd G20 a21 (.tup [.int 2, .int 5])) n _ := N20.pair m21 (fun _ => .int _) (fun _ => .int _) (no25 n1) ⟨okS_int (by decide), ⟨okS_int (by decide), trivial⟩⟩
  generalize upd G20 a21 (.tup [.int 2, .int 5]) = G21 at Z21 S21 T21 N21 ⊢
  refine ⟨_, rfl, _, rfl, _, _, rfl, rfl, (by show 2 ≤ sizeLine; decide), fun a22 m22 => ?_⟩
  have Z22 := same_upd (o := .tup [.int (n : Int), .int ((n : Int) + 1)]) m22
  have S22 := S21.trans Z22
  have T22 := T21.trans Z22
  have N22 : BadX K (upd G21 a22 (.tup [.int (n : Int), .int ((n : Int) + 1)])) n _ := N21.pair m22 (fun _ => .int _) (fun _ => .int _) (tn_out (by omega)) ⟨okS_int (by omega), ⟨okS_int (by omega), trivial⟩⟩
  generalize upd G21 a22 (.tup [.int (n : Int), .int ((n : Int) + 1)]) = G22 at Z22 S22 T22 N22 ⊢
  refine ⟨(by show 10 ≤ sizeLine; decide), fun l2 m23 => ?_⟩
  have Z23 := same_upd (o := .lst [.ref a13, .ref a14, .ref a15, .ref a16, .ref a17, .ref a18, .ref a19, .ref a20, .ref a21, .ref a22]) m23
  have S23 := S22.trans Z23
  have T23 := T22.trans Z23
  have N23 := N22.same Z23
  have hl2 : (upd G22 l2 (.lst [.ref a13, .ref a14, .ref a15, .ref a16, .ref a17, .ref a18, .ref a19, .ref a20, .ref a21, .ref a22])) l2 = some (.lst [.ref a13, .ref a14, .ref a15, .ref a16, .ref a17, .ref a18, .ref a19, .ref a20, .ref a21, .ref a22]) := upd_same
  generalize upd G22 l2 (.lst [.ref a13, .ref a14, .ref a15, .ref a16, .ref a17, .ref a18, .ref a19, .ref a20, .ref a21, .ref a22]) = G23 at Z23 S23 T23 N23 hl2 ⊢
  have N23 : BadX K G23 n [V.ref a13, .ref a14, .ref a15, .ref a16, .ref a17, .ref a18, .ref a19, .ref a20, .ref a21, .ref a22] := N23
  have hl1b := T23 _ _ hl1
  refine ⟨l1, l2, _, _, rfl, rfl, hl1b, hl2, (by show 24 ≤ sizeLine; decide), fun r2 m24 => ?_⟩
  have Z24 := same_upd (o := .lst ([V.non, .int 0, .str "0-1", .ref a1, .ref a2, .ref a3, .ref a4, .ref a5, .ref a6, .ref a7, .ref a8, .ref a9, .ref a10, .ref a11] ++ [.ref a13, .ref a14, .ref a15, .ref a16, .ref a17, .ref a18, .ref a19, .ref a20, .ref a21, .ref a22])) m24
  have S24 := S23.trans Z24
  have T24 := T23.trans Z24
  have N24 := N23.same Z24
  have hr2 : (upd G23 r2 (.lst ([V.non, .int 0, .str "0-1", .ref a1, .ref a2, .ref a3, .ref a4, .ref a5, .ref a6, .ref a7, .ref a8, .ref a9, .ref a10, .ref a11] ++ [.ref a13, .ref a14, .ref a15, .ref a16, .ref a17, .ref a18, .ref a19, .ref a20, .ref a21, .ref a22]))) r2 = some (.lst ([V.non, .int 0, .str "0-1", .ref a1, .ref a2, .ref a3, .ref a4, .ref a5, .ref a6, .ref a7, .ref a8, .ref a9, .ref a10, .ref a11] ++ [.ref a13, .ref a14, .ref a15, .ref a16, .ref a17, .ref a18, .ref a19, .ref a20, .ref a21, .ref a22])) := upd_same
  generalize upd G23 r2 (.lst ([V.non, .int 0, .str "0-1", .ref a1, .ref a2, .ref a3, .ref a4, .ref a5, .ref a6, .ref a7, .ref a8, .ref a9, .ref a10, .ref a11] ++ [.ref a13, .ref a14, .ref a15, .ref a16, .ref a17, .ref a18, .ref a19, .ref a20, .ref a21, .ref a22])) = G24 at Z24 S24 T24 N24 hr2 ⊢
  have A2 : BadX K G24 n ([V.non, .int 0, .str "0-1", .ref a1, .ref a2, .ref a3, .ref a4, .ref a5, .ref a6, .ref a7, .ref a8, .ref a9, .ref a10, .ref a11] ++ [.ref a13, .ref a14, .ref a15, .ref a16, .ref a17, .ref a18, .ref a19, .ref a20, .ref a21, .ref a22]) := (A1.same T24).app N24
  clear A1
  have N24 : BadX K G24 n [] := BadX.nil
  have T24 : Same G24 G24 := Same.refl _
  refine ⟨_, rfl, _, rfl, _, _, rfl, rfl, _, rfl, _, _, rfl, rfl, (by show 2 ≤ sizeLine; decide), fun a25 m25 => ?_⟩
  have Z25 := same_upd (o := .tup [.int ((n : Int) - 1), .int ((n : Int) + 1)]) m25
  have S25 := S24.trans Z25
  have T25 := T24.trans Z25
  have N25 : BadX K (upd G24 a25 (.tup [.int ((n : Int) - 1), .int ((n : Int) + 1)])) n _ := N24.pair m25 (fun _ => .int _) (fun _ => .int _) (tn_out (by omega)) ⟨okS_int (by omega), ⟨okS_int (by omega), trivial⟩⟩
  generalize upd G24 a25 (.tup [.int ((n : Int) - 1), .int ((n : Int) + 1)]) = G25 at Z25 S25 T25 N25 ⊢
  refine ⟨_, rfl, _, _, rfl, rfl, (by show 2 ≤ sizeLine; decide), fun a26 m26 => ?_⟩
  have Z26 := same_upd (o := .tup [.int 0, .int ((n : Int) + 1)]) m26
  have S26 := S25.trans Z26
  have T26 := T25.trans Z26
  have N26 : BadX K (upd G25 a26 (.tup [.int 0, .int ((n : Int) + 1)])) n _ := N25.pair m26 (fun _ => .int _) (fun _ => .int _) (tn_out (by omega)) ⟨okS_int (by decide), ⟨okS_int (by omega), trivial⟩⟩
  generalize upd G25 a26 (.tup [.int 0, .int ((n : Int) + 1)]) = G26 at Z26 S26 T26 N26 ⊢
  refine ⟨_, _, rfl, rfl, ⟨by decide, by decide, by decide⟩, (by show 2 ≤ sizeLine; decide), fun a27 m27 => ?_⟩
  have Z27 := same_upd (o := .tup [.int 0, .int (10 ^ (60 : Int).toNat)]) m27
  have S27 := S26.trans Z27
  have T27 := T26.trans Z27
  have N27 : BadX K (upd G26 a27 (.tup [.int 0, .int (10 ^ (60 : Int).toNat)])) n _ := N26.pair m27 (fun _ => .int _) (fun _ => .int _) (big60 hn) ⟨okS_int (by decide), ⟨okS_int (by decide), trivial⟩⟩
  generalize upd G26 a27 (.tup [.int 0, .int (10 ^ (60 : Int).toNat)]) = G27 at Z27 S27 T27 N27 ⊢
  refine ⟨_, rfl, (by show 2 ≤ sizeLine; decide), fun a28 m28 => ?_⟩
  have Z28 := same_upd (o := .tup [.int 1, .int (n : Int)]) m28
  have S28 := S27.trans Z28
  have T28 := T27.trans Z28
  have N28 : BadX K (upd G27 a28 (.tup [.int 1, .int (n : Int)])) n _ := N27.pair m28 (fun _ => .int _) (fun _ => .int _) (no1n n1) ⟨okS_int (by decide), ⟨okS_int (by omega), trivial⟩⟩
  generalize upd G27 a28 (.tup [.int 1, .int (n : Int)]) = G28 at Z28 S28 T28 N28 ⊢
  refine ⟨(by show 2 ≤ sizeLine; decide), fun a29 m29 => ?_⟩
  have Z29 := same_upd (o := .tup [.int 0, .int 1]) m29
  have S29 := S28.trans Z29
  have T29 := T28.trans Z29
  have N29 : BadX K (upd G28 a29 (.tup [.int 0, .int 1])) n _ := N28.same (same_upd m29)
  have hs29 : (upd G28 a29 (.tup [.int 0, .int 1])) a29 = some (.tup [.int 0, .int 1]) := upd_same
  generalize upd G28 a29 (.tup [.int 0, .int 1]) = G29 at Z29 S29 T29 N29 hs29 ⊢
  have ht29 : G29 a29 = some (.tup [.int 0, .int 1]) := hs29
  refine ⟨(by show 2 ≤ sizeLine; decide), fun a30 m30 => ?_⟩
  have Z30 := same_upd (o := .tup [.ref a29, .int 2]) m30
  have S30 := S29.trans Z30
  have T30 := T29.trans Z30
  have N30 : BadX K (upd G29 a30 (.tup [.ref a29, .int 2])) n _ := N29.nest ht29 (by decide) ⟨okS_int (by decide), ⟨okS_int (by decide), trivial⟩⟩ m30 (fun _ => .int _) (okS_int (by decide))
  generalize upd G29 a30 (.tup [.ref a29, .int 2]) = G30 at Z30 S30 T30 N30 ⊢
  refine ⟨(by show 2 ≤ sizeLine; decide), fun a31 m31 => ?_⟩
  have Z31 := same_upd (o := .tup [.int 0, .int 5]) m31
  have S31 := S30.trans Z31
  have T31 := T30.trans Z31
  have N31 : BadX K (upd G30 a31 (.tup [.int 0, .int 5])) n _ := N30.pair m31 (fun _ => .int _) (fun _ => .int _) (no05 n1) ⟨okS_int (by decide), ⟨okS_int (by decide), trivial⟩⟩
  generalize upd G30 a31 (.tup [.int 0, .int 5]) = G31 at Z31 S31 T31 N31 ⊢
  refine ⟨(by show 2 ≤ sizeLine; decide), fun a32 m32 => ?_⟩
  have Z32 := same_upd (o := .tup [.int 4, .int 7]) m32
  have S32 := S31.trans Z32
  have T32 := T31.trans Z32
  have N32 : BadX K (upd G31 a32 (.tup [.int 4, .int 7])) n _ := N31.pair m32 (fun _ => .int _) (fun _ => .int _) (no47 n1) ⟨okS_int (by decide), ⟨okS_int (by decide), trivial⟩⟩
  generalize upd G31 a32 (.tup [.int 4, .int 7]) = G32 at Z32 S32 T32 N32 ⊢
  refine ⟨(by show 7 ≤ sizeLine; decide), fun l3 m33 => ?_⟩
  have Z33 := same_upd (o := .lst [.ref a25, .ref a26, .ref a27, .ref a28, .ref a30, .ref a31, .ref a32]) m33
  have S33 := S32.trans Z33
  have T33 := T32.trans Z33
  have N33 := N32.same Z33
  have hl3 : (upd G32 l3 (.lst [.ref a25, .ref a26, .ref a27, .ref a28, .ref a30, .ref a31, .ref a32])) l3 = some (.lst [.ref a25, .ref a26, .ref a27, .ref a28, .ref a30, .ref a31, .ref a32]) := upd_same
  generalize upd G32 l3 (.lst [.ref a25, .ref a26, .ref a27, .ref a28, .ref a30, .ref a31, .ref a32]) = G33 at Z33 S33 T33 N33 hl3 ⊢
  have N33 : BadX K G33 n [V.ref a25, .ref a26, .ref a27, .ref a28, .ref a30, .ref a31, .ref a32] := N33
  have hr2b := T33 _ _ hr2
  refine ⟨r2, l3, _, _, rfl, rfl, hr2b, hl3, (by show 31 ≤ sizeLine; decide), fun r3 m34 => ?_⟩
  have Z34 := same_upd (o := .lst (([V.non, .int 0, .str "0-1", .ref a1, .ref a2, .ref a3, .ref a4, .ref a5, .ref a6, .ref a7, .ref a8, .ref a9, .ref a10, .ref a11] ++ [.ref a13, .ref a14, .ref a15, .ref a16, .ref a17, .ref a18, .ref a19, .ref a20, .ref a21, .ref a22]) ++ [.ref a25, .ref a26, .ref a27, .ref a28, .ref a30, .ref a31, .ref a32])) m34
  have S34 := S33.trans Z34
  have T34 := T33.trans Z34
  have N34 := N33.same Z34
  have hr3 : (upd G33 r3 (.lst (([V.non, .int 0, .str "0-1", .ref a1, .ref a2, .ref a3, .ref a4, .ref a5, .ref a6, .ref a7, .ref a8, .ref a9, .ref a10, .ref a11] ++ [.ref a13, .ref a14, .ref a15, .ref a16, .ref a17, .ref a18, .ref a19, .ref a20, .ref a21, .ref a22]) ++ [.ref a25, .ref a26, .ref a27, .ref a28, .ref a30, .ref a31, .ref a32]))) r3 = some (.lst (([V.non, .int 0, .str "0-1", .ref a1, .ref a2, .ref a3, .ref a4, .ref a5, .ref a6, .ref a7, .ref a8, .ref a9, .ref a10, .ref a11] ++ [.ref a13, .ref a14, .ref a15, .ref a16, .ref a17, .ref a18, .ref a19, .ref a20, .ref a21, .ref a22]) ++ [.ref a25, .ref a26, .ref a27, .ref a28, .ref a30, .ref a31, .ref a32])) := upd_same
  generalize upd G33 r3 (.lst (([V.non, .int 0, .str "0-1", .ref a1, .ref a2, .ref a3, .ref a4, .ref a5, .ref a6, .ref a7, .ref a8, .ref a9, .ref a10, .ref a11] ++ [.ref a13, .ref a14, .ref a15, .ref a16, .ref a17, .ref a18, .ref a19, .ref a20, .ref a21, .ref a22]) ++ [.ref a25, .ref a26, .ref a27, .ref a28, .ref a30, .ref a31, .ref a32])) = G34 at Z34 S34 T34 N34 hr3 ⊢
  have A3 : BadX K G34 n (([V.non, .int 0, .str "0-1", .ref a1, .ref a2, .ref a3, .ref a4, .ref a5, .ref a6, .ref a7, .ref a8, .ref a9, .ref a10, .ref a11] ++ [.ref a13, .ref a14, .ref a15, .ref a16, .ref a17, .ref a18, .ref a19, .ref a20, .ref a21, .ref a22]) ++ [.ref a25, .ref a26, .ref a27, .ref a28, .ref a30, .ref a31, .ref a32]) := (A2.same T34).app N34
  clear A2
  have len : List.length (α := V) (([V.non, .int 0, .str "0-1", .ref a1, .ref a2, .ref a3, .ref a4, .ref a5, .ref a6, .ref a7, .ref a8, .ref a9, .ref a10, .ref a11] ++ [.ref a13, .ref a14, .ref a15, .ref a16, .ref a17, .ref a18, .ref a19, .ref a20, .ref a21, .ref a22]) ++ [.ref a25, .ref a26, .ref a27, .ref a28, .ref a30, .ref a31, .ref a32]) ≤ 40 := by show 31 ≤ 40; decide
  exact q _ r3 _ S34 hr3 A3 len
end
end LT

namespace LT
open PySem PySem.Spec PyProof.Rows L2
/-- list + list, not where sys.modules stands -/
def rCatN : R2 := fun x y H Q => ∃ la lb as bs, x = .ref la ∧ y = .ref lb ∧ H la = some (.lst as) ∧ H lb = some (.lst bs) ∧ as.length + bs.length ≤ sizeLine ∧ ∀ p, H p = none → (p == sysModules) = false → Q (.ref p) (upd H p (.lst (as ++ bs)))
theorem op_catN {X : Cx} : OpR X (binaryOp .Add) rCatN := by
  intro pins s σ H x y v u Q Iv rx ry ⟨la, lb, as, bs, ex, ey, ha, hb, hlen, hq⟩
  subst ex ey
  cases rx
  cases ry
  obtain ⟨_, us, _, ru, _, eu⟩ := Iv.lstM ha
  obtain ⟨_, ws, _, rw', _, ew⟩ := Iv.lstM hb
  have sz : us.toArray.size + ws.toArray.size ≤ sizeLine := by
    rw [List.size_toArray, List.size_toArray, ← ru.length, ← rw'.length]
    exact hlen
  refine PySem.P.add_list eu ew ?_ sz
  have lens : (as ++ bs).length ≤ sizeLine := by rw [List.length_append]; exact hlen
  have arr : us.toArray ++ ws.toArray = (us ++ ws).toArray := by simp
  rw [arr]
  exact ⟨.ref s.heap.objs.size, _, Iv.lnew (t' := s.toks) (ru.append rw') lens, rfl, hq _ Iv.fresh (beq_eq_false_iff_ne.mpr (Ne.symm (Nat.ne_of_lt Iv.big)))⟩
end LT

namespace LT
open PySem PySem.Spec PyProof.Rows L2
theorem cut_take (xs : List V) (b : Nat) : cutV xs none (some (b : Int)) = xs.take b := by
  unfold cutV
  rw [HT.sIx_nat, HT.sIx_none, List.drop_zero, Nat.sub_zero, ← List.take_eq_take_min]
theorem cut_drop (xs : List V) (a : Nat) : cutV xs (some (a : Int)) none = xs.drop a := by
  unfold cutV
  rw [HT.sIx_nat, HT.sIx_none]
  by_cases h : a ≤ xs.length
  · rw [Nat.min_eq_left h]
    exact List.take_of_length_le (by rw [List.length_drop]; exact Nat.le_refl _)
  · rw [Nat.min_eq_right (by omega), List.drop_length, List.drop_of_length_le (by omega), List.take_nil]
theorem All2.takeN {α : Type} {R : V → α → Prop} : ∀ {vs : List V} {xs : List α}, All2 R vs xs → ∀ k, All2 R (vs.take k) (xs.take k)
  | _, _, .nil, k => by rw [List.take_nil, List.take_nil]; exact .nil
  | _, _, .cons h t, 0 => .nil
  | _, _, .cons h t, k + 1 => .cons h (t.takeN k)
theorem All2.dropN {α : Type} {R : V → α → Prop} : ∀ {vs : List V} {xs : List α}, All2 R vs xs → ∀ k, All2 R (vs.drop k) (xs.drop k)
  | _, _, .nil, k => by rw [List.drop_nil, List.drop_nil]; exact .nil
  | _, _, .cons h t, 0 => .cons h t
  | _, _, .cons h t, k + 1 => t.dropN k
theorem All2.rep {α : Type} {R : V → α → Prop} {vs : List V} {xs : List α} (h : All2 R vs xs) : ∀ k, All2 R (List.replicate k vs).flatten (List.replicate k xs).flatten
  | 0 => .nil
  | k + 1 => by
    rw [List.replicate_succ, List.replicate_succ, List.flatten_cons, List.flatten_cons]
    exact h.app (h.rep k)
theorem All2.memR {α : Type} {R : V → α → Prop} : ∀ {vs : List V} {xs : List α} {x : α}, All2 R vs xs → x ∈ xs → ∃ v ∈ vs, R v x
  | _, _, _, .nil, m => by cases m
  | _, _, x, .cons h t, m => by
    rcases List.mem_cons.mp m with rfl | m
    · exact ⟨_, List.mem_cons_self, h⟩
    · obtain ⟨v, a, b⟩ := t.memR m
      exact ⟨v, List.mem_cons_of_mem _ a, b⟩
theorem All2.memL {α : Type} {R : V → α → Prop} : ∀ {vs : List V} {xs : List α} {v : V}, All2 R vs xs → v ∈ vs → ∃ x ∈ xs, R v x
  | _, _, _, .nil, m => by cases m
  | _, _, v, .cons h t, m => by
    rcases List.mem_cons.mp m with rfl | m
    · exact ⟨_, List.mem_cons_self, h⟩
    · obtain ⟨x, a, b⟩ := t.memL m
      exact ⟨x, List.mem_cons_of_mem _ a, b⟩
/-! ### lists of texts as data -/
def stD (ns : List Str) : PyData := .list (ns.map PyData.str)
theorem stD_all {K : PySem.W.Frag} {H : Hp} : ∀ ns : List Str, DpAll K H (ns.map V.str) (ns.map PyData.str)
  | [] => .nil
  | x :: ns => .cons (.str x) (stD_all ns)
theorem stD_dp {K : PySem.W.Frag} {H : Hp} {p : Addr} {ns : List Str} (h : H p = some (.lst (ns.map V.str))) : Dp K H (.ref p) (stD ns) := .lst (SqL.of h) (stD_all ns)
theorem okSt_iff {x : Str} : PyData.strOk x = true ↔ ∀ c ∈ x.cps.toList, c < 0x110000 := by
  unfold PyData.strOk
  rw [← Array.all_toList, List.all_eq_true]
  simp only [decide_eq_true_eq]
theorem okSt_of (s : String) : PyData.strOk (Str.ofString s) = true := okSt_iff.mpr fun c h => by
  rw [PyProof.Rows.signs_ofString] at h
  obtain ⟨k, _, rfl⟩ := List.mem_map.mp h
  have := k.valid
  show k.toNat < 0x110000
  unfold Char.toNat
  rcases this with z | z
  · exact Nat.lt_trans z (by decide)
  · exact z.2
theorem okSt_app {x y : Str} (a : PyData.strOk x = true) (b : PyData.strOk y = true) : PyData.strOk (x ++ y) = true := okSt_iff.mpr fun c h => by
  rcases PyProof.Rows.mem_cps_append.mp h with h | h
  · exact okSt_iff.mp a c h
  · exact okSt_iff.mp b c h
theorem stD_lay : ∀ ns : List Str, ns.all PyData.strOk = true → PyData.canLayAll0 (ns.map PyData.str) = true ∧ PyData.depthAll (ns.map PyData.str) ≤ 1
  | [], _ => by simp [PyData.canLayAll0, PyData.depthAll]
  | x :: ns, h => by
    rw [List.all_cons, Bool.and_eq_true] at h
    obtain ⟨a, b⟩ := stD_lay ns h.2
    refine ⟨by simp [PyData.canLayAll0, PyData.canLay0, a, h.1], ?_⟩
    simp only [List.map_cons, PyData.depthAll, PyData.depth]
    omega
theorem stD_shaped {ns : List Str} (h : ns.all PyData.strOk = true) : SeqAt.shaped (stD ns) = true := by
  obtain ⟨a, b⟩ := stD_lay ns h
  show (PyData.canLay0 _ && decide (PyData.depth _ ≤ 64)) = true
  rw [show PyData.canLay0 (stD ns) = true from by simp only [stD, PyData.canLay0, a], Bool.true_and]
  refine decide_eq_true ?_
  simp only [stD, PyData.depth]
  omega
theorem stD_eqvAll : ∀ ns : List Str, PyData.eqvAll (ns.map PyData.str) (ns.map PyData.str) = true
  | [] => by simp only [List.map_nil, PyData.eqvAll]
  | x :: ns => by simp only [List.map_cons, PyData.eqvAll, PyData.eqv, stD_eqvAll ns, beq_self_eq_true, Bool.and_self]
theorem stD_eqv (ns : List Str) : PyData.eqv (stD ns) (stD ns) = true := by
  simp only [stD, PyData.eqv, stD_eqvAll ns]
/-! ### nodes that are shown and asked -/
theorem ask_nd {K : PySem.W.Frag} {H : Hp} {n : Nat} {v : V} {y : Nat × Nat} (h : Nd H v y) (hy : isN n y) : Ask K H n v true := by
  obtain ⟨p, rfl, hp⟩ := h
  have e : tnV n (.int (y.1 : Int)) (.int (y.2 : Int)) = true := by
    rw [tn_nat37]
    exact decide_eq_true hy
  exact e ▸ Ask.pair (n := n) hp (.int _) (.int _)
theorem nd_rp {dk : Bool} {H : Hp} {v : V} {y : Nat × Nat} (h : Nd H v y) : Rp dk 1 H v (nd y) := by
  obtain ⟨p, rfl, hp⟩ := h
  exact .inr (.inl ⟨p, _, _, rfl, hp, rfl, .cons (.inr (.inr (.inl ⟨_, rfl, rfl⟩))) (.cons (.inr (.inr (.inl ⟨_, rfl, rfl⟩))) .nil)⟩)
theorem nds_rp {dk : Bool} {H : Hp} {vs : List V} {S : List (Nat × Nat)} (h : All2 (Nd H) vs S) : All2 (Rp dk 1 H) vs (S.map nd) := by
  induction h with
  | nil => exact .nil
  | cons h _ ih => exact .cons (nd_rp h) ih
theorem nd_tn {y : Nat × Nat} (h : y.1 ≤ 10 ^ 30 ∧ y.2 ≤ 10 ^ 30) : Tn 150 (nd y) := by
  have d66 : (10 : Nat) ^ 30 < 10 ^ 66 := by decide
  refine (tn_tup (n := 70) fun d m => ?_).le (by show 2 * (70 + 2) + 3 ≤ 150; decide)
  rcases List.mem_cons.mp m with rfl | m
  · exact tn_int (by omega)
  · rw [List.mem_singleton] at m
    rw [m]
    exact tn_int (by omega)
theorem nds_tn {S : List (Nat × Nat)} (h : ∀ y ∈ S, y.1 ≤ 10 ^ 30 ∧ y.2 ≤ 10 ^ 30) : ∀ d ∈ S.map nd, Tn 150 d := fun d m => by
  obtain ⟨y, hy, rfl⟩ := List.mem_map.mp m
  exact nd_tn (h y hy)
theorem isN_bd {n : Nat} {y : Nat × Nat} (hn : n ≤ 10 ^ 30) (h : isN n y) : y.1 ≤ 10 ^ 30 ∧ y.2 ≤ 10 ^ 30 := by
  have a := h.1
  have b := h.2.1
  exact ⟨by omega, by omega⟩
/-- a list that can be shown -/
theorem tn_big {ds : List PyData} (h : ∀ d ∈ ds, Tn 600 d) (l : ds.length ≤ 5000) : Tn sizeLine (.list ds) := (tn_list h).le (by
  rw [PySem.sizeLine_eq]
  have : ds.length * (600 + 2) ≤ 5000 * 602 := Nat.mul_le_mul_right _ l
  omega)
theorem tn_bigT {ds : List PyData} (h : ∀ d ∈ ds, Tn 600 d) (l : ds.length ≤ 5000) : Tn sizeLine (.tuple ds) := (tn_tup h).le (by
  rw [PySem.sizeLine_eq]
  have : ds.length * (600 + 2) ≤ 5000 * 602 := Nat.mul_le_mul_right _ l
  omega)
end LT

namespace LT
open PySem PySem.Spec PyProof.Rows L2
/-- check_nodes called with all four -/
theorem check_all {K : PySem.W.Frag} {its : List Value} {v1 v2 : V} {f : Addr} {fd : FuncData} (F : FunT K "check_nodes" "check_nodes" sCheckNodes its [v1, v2] f fd) : Binds K fd ["size", "nodes", "least", "most"] [] := by
  obtain ⟨oc, od, T, kV, doc, pm, an, cdv, ct, osl, o, n, rfl, lk, hcd, lT, oT⟩ := F.ex
  have e := F.v.length
  intro s us X hl
  rw [List.append_nil] at hl ⊢
  match us, hl, its, e, oT with
  | [a, b, c, d], _, [x, y], _, oT =>
    refine BindsTo.of_looks fun M => ?_
    have h : ∃ k, bindArgs (PySem.W.fnOf "check_nodes" "check_nodes" (defArgs sCheckNodes) (defBody sCheckNodes) (defScope sCheckNodes) (.ref T) kV doc pm an cdv ct) ⟨[a, b, c, d], []⟩ = seqItems? (.ref T) >>= k ∧ k (some [x, y].toArray) = pure ((["size", "nodes", "least", "most"] : List Str).zip [a, b, c, d]) := ⟨_, rfl, rfl⟩
    obtain ⟨k, e1, e2⟩ := h
    rw [e1]
    exact looks_items X lT oT (.of_pure e2)
end LT

namespace LT
open PySem PySem.Spec PyProof.Rows L2
theorem script_at {ns : List Int} {lo hi : Option Int} {i : Nat} {x : V} (h : (cutV (ns.map V.int) lo hi ++ [.int 0])[i]? = some x) : ∃ c : Int, x = .int c := by
  have m := List.mem_of_getElem? h
  rcases List.mem_append.mp m with m | m
  · unfold cutV at m
    have m2 := List.mem_of_mem_drop (List.mem_of_mem_take m)
    obtain ⟨c, _, e⟩ := List.mem_map.mp m2
    exact ⟨c, e.symm⟩
  · exact ⟨0, List.mem_singleton.mp m⟩
theorem sqSame {K : PySem.W.Frag} {H H' : Hp} {a : Addr} {xs : List V} (h : SqL K H a xs) (e : Same H H') : SqL K H' a xs :=
  h.elim (fun h => .inl (h.elim (fun h => .inl (e _ _ h)) fun ⟨o, h⟩ => .inr ⟨o, e _ _ h⟩)) fun h => .inr h
def spLaw (K : PySem.W.Frag) : Sp := fun vs H Q _ => ∃ (a : Addr) (ns : List Int), vs = [.ref a] ∧ SqL K H a (ns.map V.int) ∧ ns.length ≤ 63 ∧ ∀ H', Q (.bl true) H'
end LT

namespace LT
open PySem PySem.Spec PyProof.Rows L2
/-- the nodes that are shown -/
def some39 (n : Nat) : List (Nat × Nat) := [(0, n), (0, 1), (2, 4), (4, 8), (n - 1, n)]
theorem some39_in {n : Nat} (h : 9 ≤ n) : ∀ x ∈ some39 n, isN n x := by
  have lf : ∀ j, j < n → isN n (j, j + 1) := fun j hj => isN_of (by decide) hj ⟨by rw [show 2 ^ lb 1 = 1 from by decide]; exact Nat.one_dvd j, .inl (by decide)⟩
  intro x hx
  simp only [some39, List.mem_cons, List.not_mem_nil, or_false] at hx
  rcases hx with rfl | rfl | rfl | rfl | rfl
  · exact ⟨by show 0 < n; omega, by show n ≤ n; omega, tree_root n⟩
  · exact lf 0 (by omega)
  · exact ⟨by decide, by show 4 ≤ n; omega, by show 2 ^ lb 2 ∣ 2; decide +kernel, .inl (by show (2 : Nat) = 2 ^ lb 2; decide +kernel)⟩
  · exact ⟨by decide, by show 8 ≤ n; omega, by show 2 ^ lb 4 ∣ 4; decide +kernel, .inl (by show (4 : Nat) = 2 ^ lb 4; decide +kernel)⟩
  · have := lf (n - 1) (by omega)
    rw [show n - 1 + 1 = n by omega] at this
    exact this
/-- no list of at most 4,000 nodes, and can be shown -/
def NoS (K : PySem.W.Frag) (H : Hp) (v : V) : Prop := NodesNo K H 0 4000 v ∧ ∃ dk d k, k ≤ 20 ∧ Rp dk k H v d ∧ Tn sizeLine d
theorem NoS.same {K : PySem.W.Frag} {H H' : Hp} {v : V} (h : NoS K H v) (s : Same H H') : NoS K H' v := by
  obtain ⟨a, dk, d, k, hk, r, t⟩ := h
  exact ⟨a.same s, dk, d, k, hk, r.same s, t⟩
theorem rep_len {α : Type} (xs : List α) : ∀ k, (List.replicate k xs).flatten.length = k * xs.length
  | 0 => by simp
  | k + 1 => by rw [List.replicate_succ, List.flatten_cons, List.length_append, rep_len xs k, Nat.add_mul, Nat.one_mul, Nat.add_comm]
section
variable {P : Program} {w : World} {K : PySem.W.Frag} {mg : Str → Option Value} {base : Heap}
theorem ok_law {f g1 g2 g3 g4 g5 : Addr} {fd d1 d2 d3 d4 d5 : FuncData} (F : Fun K "law" "law" sLaw f fd)
    (GLawBag : FnOk P w K mg base CX0 1 g1 d1 ["cell"] spBag) (ALawBag : At K mg "_law_bag" g1 d1 ["cell"])
    (GLawPick : FnOk P w K mg base CX0 1 g2 d2 ["bag", "many"] spPick) (ALawPick : At K mg "_law_pick" g2 d2 ["bag", "many"])
    (GLawWord : GOk P w K mg base 6 g3 d3 ["many", "some"] (spLawWord K)) (ALawWord : At K mg "_law_word" g3 d3 ["many", "some"])
    (GLawRead : FnOk P w K mg base CX0 5 g4 d4 ["many", "text"] (spLawRead K)) (ALawRead : At K mg "_law_read" g4 d4 ["many", "text"])
    (GLawBadNodes : FnOk P w K mg base CX0 1 g5 d5 ["many"] (spBadN K)) (ALawBadNodes : At K mg "_law_bad_nodes" g5 d5 ["many"])
    (z_len : mg "len" = none) (z_tuple : mg "tuple" = none) (z_str : mg "str" = none) : GOk P w K mg base 7 f fd ["script"] (spLaw K) := by
  refine okG F scLaw (fun vs H Q E h => ?_) (fun cdv A outer s H vs Q hg hr h => ?_)
  · obtain ⟨_, _, rfl, _⟩ := h
    rfl
  obtain ⟨a, ns, rfl, hs, hn, q⟩ := h
  refine ⟨_, (pss_cons (ps_for PassesOwn.never rfl (pi_list (pe_op op_cat (pe_slice sl_list (pv 0) po_none (po_some pe_int)) (pe_lst (pa_cons pe_int pa_nil)))) (pg_name (i := 1) scLaw.nd rfl (Or.inl rfl))
    (pss_cons (ps_set (i := 2) scLaw.nd rfl (Or.inl rfl) (pe_call GLawBag (hr.mono (by decide)) rfl ALawBag.m ALawBag.kp ALawBag.b .nil pass0 (pa_cons (pv 1) pa_nil)))
    (pss_cons (ps_set (i := 3) scLaw.nd rfl (Or.inl rfl) (pe_ix ix_list (pe_lst (pa_cons (pe_op op_add pe_int (pe_call GLawPick (hr.mono (by decide)) rfl ALawPick.m ALawPick.kp ALawPick.b .nil pass0 (pa_cons (pv 2) (pa_cons pe_int pa_nil)))) (pa_cons (pe_op op_add (pe_op op_pow pe_int pe_int) (pe_call GLawPick (hr.mono (by decide)) rfl ALawPick.m ALawPick.kp ALawPick.b .nil pass0 (pa_cons (pv 2) (pa_cons (pe_op op_pow pe_int pe_int) pa_nil)))) pa_nil))) (pe_call GLawPick (hr.mono (by decide)) rfl ALawPick.m ALawPick.kp ALawPick.b .nil pass0 (pa_cons (pv 2) (pa_cons pe_int pa_nil))) (fun _ _ => rfl)))
    (pss_cons (ps_set (i := 4) scLaw.nd rfl (Or.inl rfl) (pe_lst (pa_cons (pe_tup (pa_cons pe_int (pa_cons (pv 3) pa_nil))) (pa_cons (pe_tup (pa_cons pe_int (pa_cons pe_int pa_nil))) (pa_cons (pe_tup (pa_cons pe_int (pa_cons pe_int pa_nil))) (pa_cons (pe_tup (pa_cons pe_int (pa_cons pe_int pa_nil))) (pa_cons (pe_tup (pa_cons (pe_op op_sub (pv 3) pe_int) (pa_cons (pv 3) pa_nil))) pa_nil)))))))
    (pss_cons (ps_for PassesOwn.never rfl (pi_list (pe_lst (pa_cons pe_non (pa_cons pe_bl (pa_cons pe_bl (pa_cons pe_int (pa_cons (pe_un un_neg pe_int) (pa_cons (pe_op op_add (pe_op op_pow pe_int pe_int) pe_int) (pa_cons pe_str (pa_cons (pe_lst (pa_cons pe_int pa_nil)) (pa_cons (pe_tup (pa_cons pe_int pa_nil)) (pa_cons pe_dnewK pa_nil)))))))))))) (pg_name (i := 5) scLaw.nd rfl (Or.inl rfl))
    (pss_cons (ps_set (i := 6) scLaw.nd rfl (Or.inl rfl) (pe_lst (pa_cons (pe_callG GLawWord hg (hr.mono (by decide)) rfl ALawWord.m ALawWord.kp ALawWord.b (pa_cons (pv 5) (pa_cons (pv 4) pa_nil))) (pa_cons (pe_callG GLawWord hg (hr.mono (by decide)) rfl ALawWord.m ALawWord.kp ALawWord.b (pa_cons (pv 5) (pa_cons pe_non pa_nil))) (pa_cons (pe_call GLawRead (hr.mono (by decide)) rfl ALawRead.m ALawRead.kp ALawRead.b .nil pass0 (pa_cons (pv 5) (pa_cons pe_str pa_nil))) (pa_cons (pe_call GLawRead (hr.mono (by decide)) rfl ALawRead.m ALawRead.kp ALawRead.b .nil pass0 (pa_cons (pv 5) (pa_cons pe_non pa_nil))) pa_nil))))))
    (pss_one (ps_if (pt_cmpR (op_neD hr.units) (pv 6) (pe_op op_rep (pe_lst (pa_cons pe_str pa_nil)) pe_int) (nomark _))
    (pss_one (ps_ret pe_bl))
    pss_nil))))
    (pss_cons (ps_for PassesOwn.never rfl (pi_list (pe_lst (pa_cons pe_non (pa_cons pe_int (pa_cons pe_bl (pa_cons pe_str (pa_cons (pe_tup pa_nil) (pa_cons pe_dnewK (pa_cons (pe_callTy call_tuple_of (by rfl) z_tuple (by decide +kernel) (pa_cons (pv 4) pa_nil)) (pa_cons (pe_tup (pa_cons pe_int (pa_cons pe_int pa_nil))) (pa_cons (pe_slice sl_list (pe_op op_rep (pv 4) pe_int) po_none (po_some pe_int)) (pa_cons (pe_op op_rep (pe_lst (pa_cons pe_non pa_nil)) pe_int) pa_nil)))))))))))) (pg_name (i := 5) scLaw.nd rfl (Or.inl rfl))
    (pss_one (ps_if (pt_cmpR op_ne (pe_callG GLawWord hg (hr.mono (by decide)) rfl ALawWord.m ALawWord.kp ALawWord.b (pa_cons (pv 3) (pa_cons (pv 5) pa_nil))) pe_str (nomark _))
    (pss_one (ps_ret pe_bl))
    pss_nil)))
    (pss_cons (ps_set (i := 7) scLaw.nd rfl (Or.inl rfl) (pe_call GLawPick (hr.mono (by decide)) rfl ALawPick.m ALawPick.kp ALawPick.b .nil pass0 (pa_cons (pv 2) (pa_cons (pe_callB call_len_seq (by rfl) z_len PySem.boot_len (pa_cons (pv 4) pa_nil)) pa_nil))))
    (pss_cons (ps_for PassesOwn.never rfl (pi_list (pe_call GLawBadNodes (hr.mono (by decide)) rfl ALawBadNodes.m ALawBadNodes.kp ALawBadNodes.b .nil pass0 (pa_cons (pv 3) pa_nil))) (pg_name (i := 5) scLaw.nd rfl (Or.inl rfl))
    (pss_cons (ps_set (i := 6) scLaw.nd rfl (Or.inl rfl) (pe_lst (pa_cons (pe_callG GLawWord hg (hr.mono (by decide)) rfl ALawWord.m ALawWord.kp ALawWord.b (pa_cons (pv 3) (pa_cons (pe_op op_catN (pe_op op_catN (pe_slice sl_list (pv 4) po_none (po_some (pv 7))) (pe_lst (pa_cons (pv 5) pa_nil))) (pe_slice sl_list (pv 4) (po_some (pe_op op_add (pv 7) pe_int)) po_none)) pa_nil))) (pa_cons (pe_callG GLawWord hg (hr.mono (by decide)) rfl ALawWord.m ALawWord.kp ALawWord.b (pa_cons (pv 3) (pa_cons (pe_op op_catN (pe_slice sl_list (pv 4) po_none (po_some (pv 7))) (pe_lst (pa_cons (pv 5) (pa_cons pe_non pa_nil)))) pa_nil))) pa_nil))))
    (pss_one (ps_if (pt_cmpR (op_neD hr.units) (pv 6) (pe_op op_rep (pe_lst (pa_cons (pe_op op_add_str pe_str (pe_callTy call_str_int (by rfl) z_str (by decide +kernel) (pa_cons (pv 7) pa_nil))) pa_nil)) pe_int) (nomark _))
    (pss_one (ps_ret pe_bl))
    pss_nil))))
    (pss_cons (ps_set (i := 6) scLaw.nd rfl (Or.inl rfl) (pe_lst (pa_cons (pe_callG GLawWord hg (hr.mono (by decide)) rfl ALawWord.m ALawWord.kp ALawWord.b (pa_cons (pv 3) (pa_cons (pv 4) pa_nil))) (pa_cons (pe_callG GLawWord hg (hr.mono (by decide)) rfl ALawWord.m ALawWord.kp ALawWord.b (pa_cons (pv 3) (pa_cons (pe_lst pa_nil) pa_nil))) (pa_cons (pe_callG GLawWord hg (hr.mono (by decide)) rfl ALawWord.m ALawWord.kp ALawWord.b (pa_cons (pv 3) (pa_cons (pe_slice sl_list (pe_op op_rep (pv 4) pe_int) po_none (po_some pe_int)) pa_nil))) pa_nil)))))
    (pss_one (ps_if (pt_cmpR (op_neD hr.units) (pe_op op_cat (pv 6) (pe_lst (pa_cons (pe_call GLawRead (hr.mono (by decide)) rfl ALawRead.m ALawRead.kp ALawRead.b .nil pass0 (pa_cons (pv 3) (pa_cons pe_str pa_nil))) pa_nil))) (pe_op op_rep (pe_lst (pa_cons pe_str pa_nil)) pe_int) (nomark _))
    (pss_one (ps_ret pe_bl))
    pss_nil)))))))))))
    (pss_one (ps_ret pe_bl))), ?_⟩
  have one1 : 1 ≤ sizeLine := by decide
  have two : 2 ≤ sizeLine := by decide
  refine ⟨_, rfl, 6, rfl, a, _, rfl, hs, fun c nc => ⟨one1, fun z nz => ?_⟩⟩
  have s1 := same_upd (o := .lst (cutV (ns.map V.int) none (some 6))) nc
  have s2 := same_upd (o := .lst [.int 0]) nz
  have hcl := cutV_length (ns.map V.int) none (some 6)
  rw [List.length_map] at hcl
  refine ⟨c, z, _, _, rfl, rfl, s2 _ _ upd_same, upd_same, szle (by rw [List.length_singleton]; omega), fun r nr => ?_⟩
  have hr0 : (upd (upd (upd H c (.lst (cutV (ns.map V.int) none (some 6)))) z (.lst [.int 0])) r (.lst (cutV (ns.map V.int) none (some 6) ++ [.int 0]))) r = some (.lst (cutV (ns.map V.int) none (some 6) ++ [.int 0])) := upd_same
  generalize upd (upd (upd H c (.lst (cutV (ns.map V.int) none (some 6)))) z (.lst [.int 0])) r (.lst (cutV (ns.map V.int) none (some 6) ++ [.int 0])) = H0 at hr0
  refine ⟨r, rfl, ⟨_, SqL.of hr0⟩, for_list (K := K) (a := r) (xs := cutV (ns.map V.int) none (some 6) ++ [.int 0]) (fun i σ H' => ∃ v1 v2 v3 v4 v5 v6 v7 : Option V, σ = [some (.ref a), v1, v2, v3, v4, v5, v6, v7] ∧ Same H0 H')
    ⟨none, none, none, none, none, none, none, rfl, Same.refl _⟩ (fun i σ H' _ ⟨_, _, _, _, _, _, _, _, s5⟩ => SqL.of (s5 _ _ hr0)) ?_ (fun σ H1 _ => q _)⟩
  rintro i x σ H1 hi ⟨v1, v2, v3, v4, v5, v6, v7, rfl, sm1⟩
  obtain ⟨cell, rfl⟩ := script_at hi
  refine ⟨_, rfl, cell, rfl, fun H2 b sm2 nb hb => ?_⟩
  have nb0 : H0 b = none := sm1.free nb
  have B2 : But b H0 H2 := But.of (sm1.trans sm2)
  have e29 : (10 : Int) ^ Int.toNat 29 = ((10 ^ 29 : Nat) : Int) := by decide
  have e30 : (10 : Int) ^ Int.toNat 30 = ((10 ^ 30 : Nat) : Int) := by decide
  refine ⟨_, rfl, b, 20, rfl, by decide, by decide, hb, fun r1 H3 r10 r11 k3 hb3 => ⟨_, _, rfl, rfl, ?_⟩⟩
  have B3 := B2.pick k3
  refine ⟨_, _, rfl, rfl, ⟨by decide, by decide, by decide⟩, _, rfl, _, _, rfl, rfl, ⟨by decide, by decide, by decide⟩, b, _, rfl, by decide, by decide, hb3, fun r2 H4 r20 r21 k4 hb4 => ⟨_, _, rfl, rfl, two, fun t nt => ?_⟩⟩
  have B4 := B3.pick k4
  rw [e29] at r21 ⊢
  have s3 := same_upd (o := .lst [.int (9 + r1), .int (((10 ^ 29 : Nat) : Int) + r2)]) nt
  have ht := upd_same (H := H4) (a := t) (o := .lst [.int (9 + r1), .int (((10 ^ 29 : Nat) : Int) + r2)])
  have hb5 := hb4.same s3
  have tb := hb4.ne nt
  have B5 := B4.trans (But.of s3)
  generalize upd H4 t (.lst [.int (9 + r1), .int (((10 ^ 29 : Nat) : Int) + r2)]) = H5 at ht hb5 B5 ⊢
  refine ⟨_, rfl, b, 2, rfl, by decide, by decide, hb5, fun r3 H6 r30 r31 k6 hb6 => ?_⟩
  have B6 := B5.pick k6
  have ht6 : H6 t = some (.lst [.int (9 + r1), .int (((10 ^ 29 : Nat) : Int) + r2)]) := by rw [k6 t tb]; exact ht
  obtain ⟨n, j, en, n9, n30, ej⟩ : ∃ (n j : Nat), [V.int (9 + r1), V.int (((10 ^ 29 : Nat) : Int) + r2)][j]? = some (.int (n : Int)) ∧ 9 ≤ n ∧ n ≤ 10 ^ 30 ∧ r3 = (j : Int) := by
    have : r3 = 0 ∨ r3 = 1 := by omega
    rcases this with rfl | rfl
    · exact ⟨(9 + r1).toNat, 0, by show some (V.int (9 + r1)) = _; rw [Int.toNat_of_nonneg (by omega)], by omega, by omega, rfl⟩
    · exact ⟨(((10 ^ 29 : Nat) : Int) + r2).toNat, 1, by show some (V.int (((10 ^ 29 : Nat) : Int) + r2)) = _; rw [Int.toNat_of_nonneg (by omega)], by omega, by omega, rfl⟩
  subst ej
  refine ⟨t, _, _, _, rfl, rfl, SqL.of ht6, atI_nat en, ?_⟩
  clear en ht6 ht tb r10 r11 r20 r21 r30 r31 k3 k4 k6 hb hb3 hb4 hb5 nt s3 B2 B3 B4 B5
  -- the nodes
  refine ⟨_, rfl, two, fun t1 w1 => ⟨two, fun t2 w2 => ⟨two, fun t3 w3 => ⟨two, fun t4 w4 => ⟨_, rfl, _, _, rfl, rfl, _, rfl, two, fun t5 w5 => ⟨(by show 5 ≤ sizeLine; decide), fun p np => ?_⟩⟩⟩⟩⟩⟩
  have u1 := same_upd (o := .tup [.int 0, .int (n : Int)]) w1
  have u2 := same_upd (o := .tup [.int 0, .int 1]) w2
  have u3 := same_upd (o := .tup [.int 2, .int 4]) w3
  have u4 := same_upd (o := .tup [.int 4, .int 8]) w4
  have u5 := same_upd (o := .tup [.int ((n : Int) - 1), .int (n : Int)]) w5
  have u6 := same_upd (o := .lst [.ref t1, .ref t2, .ref t3, .ref t4, .ref t5]) np
  have f1 := u6 _ _ (u5 _ _ (u4 _ _ (u3 _ _ (u2 _ _ (upd_same (H := H6) (a := t1) (o := .tup [.int 0, .int (n : Int)]))))))
  have f2 := u6 _ _ (u5 _ _ (u4 _ _ (u3 _ _ (upd_same (a := t2) (o := .tup [.int 0, .int 1])))))
  have f3 := u6 _ _ (u5 _ _ (u4 _ _ (upd_same (a := t3) (o := .tup [.int 2, .int 4]))))
  have f4 := u6 _ _ (u5 _ _ (upd_same (a := t4) (o := .tup [.int 4, .int 8])))
  have f5 := u6 _ _ (upd_same (a := t5) (o := .tup [.int ((n : Int) - 1), .int (n : Int)]))
  have uA := u1.trans (u2.trans (u3.trans (u4.trans (u5.trans u6))))
  generalize hH7 : upd (upd (upd (upd (upd (upd H6 t1 _) t2 _) t3 _) t4 _) t5 _) p _ = H7
  have hp : H7 p = some (.lst [.ref t1, .ref t2, .ref t3, .ref t4, .ref t5]) := by rw [← hH7]; exact upd_same
  have uA : Same H6 H7 := by rw [← hH7]; exact uA
  have hx : All2 (Nd H7) [.ref t1, .ref t2, .ref t3, .ref t4, .ref t5] (some39 n) := by
    rw [← hH7]
    refine .cons ⟨t1, rfl, f1⟩ (.cons ⟨t2, rfl, f2⟩ (.cons ⟨t3, rfl, f3⟩ (.cons ⟨t4, rfl, f4⟩ (.cons ⟨t5, rfl, ?_⟩ .nil))))
    rw [show ((n - 1 : Nat) : Int) = (n : Int) - 1 by omega]
    exact f5
  have B7 := B6.trans (But.of uA)
  have hb7 := hb6.same uA
  generalize [V.ref t1, V.ref t2, V.ref t3, V.ref t4, V.ref t5] = vs at hp hx ⊢
  clear hH7 uA f1 f2 f3 f4 f5 u1 u2 u3 u4 u5 u6 w1 w2 w3 w4 w5 np hb6 B6
  have hN := some39_in n9
  have hS5 : (some39 n).length = 5 := rfl
  have hbd : ∀ y ∈ some39 n, y.1 ≤ 10 ^ 30 ∧ y.2 ≤ 10 ^ 30 := fun y hy => isN_bd n30 (hN y hy)
  generalize some39 n = S at hx hN hS5 hbd
  have vl := hx.len
  -- wrong sizes
  refine ⟨1, rfl, _, _, rfl, rfl, ⟨by decide, by decide, by decide⟩, _, _, rfl, rfl, one1, fun m1 k1 => ⟨one1, fun m2 k2 => fun m3 k3 => ⟨(by show 10 ≤ sizeLine; decide), fun od kd => ?_⟩⟩⟩
  have u1 := same_upd (o := .lst [.int 7]) k1
  have u2 := same_upd (o := .tup [.int 7]) k2
  have u3 := same_upd (o := .dK []) k3
  generalize hH8 : upd (upd (upd (upd H7 m1 _) m2 _) m3 _) od _ = H8
  have u4 : Same (upd (upd (upd H7 m1 (.lst [.int 7])) m2 (.tup [.int 7])) m3 (.dK [])) H8 := by rw [← hH8]; exact same_upd kd
  have hod : H8 od = some (.lst [.non, .bl true, .bl false, .int 0, .int (-1), .int (10 ^ Int.toNat 30 + 1), .str "7", .ref m1, .ref m2, .ref m3]) := by rw [← hH8]; exact upd_same
  have f1 := u4 _ _ (u3 _ _ (u2 _ _ (upd_same (H := H7) (a := m1) (o := .lst [.int 7]))))
  have f2 := u4 _ _ (u3 _ _ (upd_same (a := m2) (o := .tup [.int 7])))
  have f3 := u4 _ _ (upd_same (a := m3) (o := .dK []))
  have uA := u1.trans (u2.trans (u3.trans u4))
  have hI : ∀ y ∈ [V.non, .bl true, .bl false, .int 0, .int (-1), .int (10 ^ Int.toNat 30 + 1), .str "7", .ref m1, .ref m2, .ref m3], ∃ t, Pl K H8 y t ∧ inRange 1 top30 y = false := by
    intro y hy
    simp only [List.mem_cons, List.not_mem_nil, or_false] at hy
    rcases hy with rfl | rfl | rfl | rfl | rfl | rfl | rfl | rfl | rfl | rfl
    · exact ⟨_, .non, rfl⟩
    · exact ⟨_, .bl _, rfl⟩
    · exact ⟨_, .bl _, rfl⟩
    · exact ⟨_, .int _, by decide⟩
    · exact ⟨_, .int _, by decide⟩
    · exact ⟨_, .int _, by decide⟩
    · exact ⟨_, .str _, rfl⟩
    · exact ⟨_, .lst f1, rfl⟩
    · exact ⟨_, .tup f2, rfl⟩
    · exact ⟨_, .dict f3, rfl⟩
  have hp8 := uA _ _ hp
  have hx8 := hx.mono fun v y (k : Nd H7 v y) => k.same uA
  have B8 := B7.trans (But.of uA)
  have hb8 := hb7.same uA
  generalize [V.non, .bl true, .bl false, .int 0, .int (-1), .int (10 ^ Int.toNat 30 + 1), .str "7", .ref m1, .ref m2, .ref m3] = O at hod hI
  clear hp hx B7 hb7 uA f1 f2 f3 u1 u2 u3 u4 k1 k2 k3 kd hH8
  have four : 4 ≤ sizeLine := by decide
  have t01 : ("0-1" : Str) = nTxs [(0, 1)] := by decide +kernel
  have szS : Tn sizeLine (.list (S.map nd)) := tn_big (fun d m => (nds_tn hbd d m).le (by decide)) (by rw [List.length_map]; omega)
  have rpS : ∀ {G : Hp} {ws : List V} {q : Addr}, G q = some (.lst ws) → All2 (Nd G) ws S → Rp false 2 G (.ref q) (.list (S.map nd)) := fun h k => .inr (.inr ⟨_, _, _, rfl, h, rfl, (fun z => nomatch z), nds_rp k⟩)
  have tnN : Tn sizeLine .none := tn_none.le (by rw [PySem.sizeLine_eq]; decide)
  refine ⟨od, rfl, ⟨_, SqL.of hod⟩, for_list (K := K) (a := od) (xs := O) (fun i σ H' => ∃ v5 v6 : Option V, σ = [some (.ref a), some (.int cell), some (.ref b), some (.int (n : Int)), some (.ref p), v5, v6, v7] ∧ Same H8 H')
    ⟨v5, v6, rfl, Same.refl _⟩ (fun i σ H' _ ⟨_, _, _, s5⟩ => SqL.of (s5 _ _ hod)) ?_ ?_⟩
  · rintro i y σ G hi ⟨v5, v6, rfl, sm⟩
    obtain ⟨t, ht, hr1⟩ := hI y (List.mem_of_getElem? hi)
    refine ⟨_, rfl, _, rfl, y, .ref p, t, _, false, 2, "InvalidSize", rfl, ht.same sm, by decide, rpS (sm _ _ hp8) (hx8.mono fun v y (k : Nd H8 v y) => k.same sm), szS, .inl ⟨hr1, rfl⟩, fun G1 s1 => ?_⟩
    have sm1 := sm.trans s1
    refine ⟨_, rfl, y, .non, t, .none, false, 0, "InvalidSize", rfl, ht.same sm1, by decide, .inl ⟨rfl, rfl⟩, tnN, .inl ⟨hr1, rfl⟩, fun G2 s2 => ?_⟩
    have sm2 := sm1.trans s2
    refine ⟨_, rfl, y, _, t, "InvalidSize", rfl, ht.same sm2, .inl ⟨hr1, rfl⟩, fun G3 s3 => ?_⟩
    have sm3 := sm2.trans s3
    refine ⟨_, rfl, y, _, t, "InvalidSize", rfl, ht.same sm3, .inl ⟨hr1, rfl⟩, fun G4 s4 => ⟨four, fun l nl => ?_⟩⟩
    have w1 := same_upd (o := .lst [.str "InvalidSize", .str "InvalidSize", .str "InvalidSize", .str "InvalidSize"]) nl
    have hl := upd_same (H := G4) (a := l) (o := .lst [.str "InvalidSize", .str "InvalidSize", .str "InvalidSize", .str "InvalidSize"])
    have sm4 := sm3.trans (s4.trans w1)
    generalize upd G4 l (.lst [.str "InvalidSize", .str "InvalidSize", .str "InvalidSize", .str "InvalidSize"]) = G5 at hl sm4 ⊢
    refine ⟨_, rfl, one1, fun l2 nl2 => ⟨l2, 4, _, rfl, rfl, upd_same, by decide, by decide, by show 1 * 4 ≤ sizeLine; decide, fun r2 nr2 => ?_⟩⟩
    have w2 := same_upd (o := .lst [.str "InvalidSize"]) nl2
    have w3 := same_upd (o := .lst (List.replicate (4 : Int).toNat [V.str "InvalidSize"]).flatten) nr2
    refine ⟨stD ["InvalidSize", "InvalidSize", "InvalidSize", "InvalidSize"], stD ["InvalidSize", "InvalidSize", "InvalidSize", "InvalidSize"], stD_dp (w3 _ _ (w2 _ _ hl)), stD_dp upd_same, stD_shaped (by decide +kernel), stD_shaped (by decide +kernel), ?_⟩
    rw [stD_eqv]
    refine ⟨false, rfl, ?_⟩
    exact ⟨_, _, rfl, sm4.trans (w2.trans w3)⟩
  rintro σ H9 ⟨v5, v6, rfl, sm⟩
  have hp9 := sm _ _ hp8
  have hx9 := hx8.mono fun v y (k : Nd H8 v y) => k.same sm
  have B9 := B8.trans (But.of sm)
  have hb9 := hb8.same sm
  clear hp8 hx8 B8 hb8 sm hod hI
  -- no lists of nodes
  have sl : ∀ m : Nat, m ≤ 5000 → m ≤ sizeLine := fun m h => by rw [PySem.sizeLine_eq]; omega
  refine ⟨Nat.zero_le _, fun a1 k1 => ?_⟩
  have u1 := same_upd (o := .tup []) k1
  have q1 : NoS K (upd H9 a1 (.tup [])) (.ref a1) := ⟨.inl ⟨_, .tup upd_same, by decide⟩, false, .tuple [], 1, by decide, .inr (.inl ⟨a1, _, _, rfl, upd_same, rfl, .nil⟩), tn_bigT (fun _ h => absurd h List.not_mem_nil) (by decide)⟩
  have hp10 := u1 _ _ hp9
  have hx10 := hx9.mono fun v y (k : Nd H9 v y) => k.same u1
  have B10 := B9.trans (But.of u1)
  have hb10 := hb9.same u1
  generalize upd H9 a1 (.tup []) = H10 at q1 hp10 hx10 B10 hb10 ⊢
  clear hp9 hx9 B9 hb9 u1 k1
  refine fun a2 k2 => ?_
  have u2 := same_upd (o := .dK []) k2
  have q2 : NoS K (upd H10 a2 (.dK [])) (.ref a2) := ⟨.inl ⟨_, .dict upd_same, by decide⟩, true, .dict [], 0, by decide, .inr (.inr (.inr (.inr ⟨rfl, a2, rfl, upd_same, rfl⟩))), tn_dict.le (sl _ (by decide))⟩
  have q1 := q1.same u2
  have hp11 := u2 _ _ hp10
  have hx11 := hx10.mono fun v y (k : Nd H10 v y) => k.same u2
  have B11 := B10.trans (But.of u2)
  have hb11 := hb10.same u2
  generalize upd H10 a2 (.dK []) = H11 at q1 q2 hp11 hx11 B11 hb11 ⊢
  clear hp10 hx10 B10 hb10 u2 k2
  refine ⟨_, rfl, p, vs, rfl, .inl ⟨SqL.of hp11, fun a3 k3 => ?_⟩⟩
  have u3 := same_upd (o := .tup vs) k3
  have q3 : NoS K (upd H11 a3 (.tup vs)) (.ref a3) := ⟨.inl ⟨_, .tup upd_same, by decide⟩, false, .tuple (S.map nd), 2, by decide, .inr (.inl ⟨a3, _, _, rfl, upd_same, rfl, nds_rp (hx11.mono fun v y (k : Nd H11 v y) => k.same u3)⟩), tn_bigT (fun d m => (nds_tn hbd d m).le (by decide)) (by rw [List.length_map]; omega)⟩
  have q1 := q1.same u3
  have q2 := q2.same u3
  have hp12 := u3 _ _ hp11
  have hx12 := hx11.mono fun v y (k : Nd H11 v y) => k.same u3
  have B12 := B11.trans (But.of u3)
  have hb12 := hb11.same u3
  generalize upd H11 a3 (.tup vs) = H12 at q1 q2 q3 hp12 hx12 B12 hb12 ⊢
  clear hp11 hx11 B11 hb11 u3 k3
  refine ⟨two, fun a4 k4 => ?_⟩
  have u4 := same_upd (o := .tup [.int 0, .int 1]) k4
  have q4 : NoS K (upd H12 a4 (.tup [.int 0, .int 1])) (.ref a4) := ⟨.inl ⟨_, .tup upd_same, by decide⟩, false, _, 1, by decide, nd_rp (y := (0, 1)) ⟨a4, rfl, upd_same⟩, (nd_tn (y := (0, 1)) ⟨by decide, by decide⟩).le (sl _ (by decide))⟩
  have q1 := q1.same u4
  have q2 := q2.same u4
  have q3 := q3.same u4
  have hp13 := u4 _ _ hp12
  have hx13 := hx12.mono fun v y (k : Nd H12 v y) => k.same u4
  have B13 := B12.trans (But.of u4)
  have hb13 := hb12.same u4
  generalize upd H12 a4 (.tup [.int 0, .int 1]) = H13 at q1 q2 q3 q4 hp13 hx13 B13 hb13 ⊢
  clear hp12 hx12 B12 hb12 u4 k4
  refine ⟨_, rfl, p, 801, vs, rfl, rfl, hp13, by decide, by decide, sl _ (by rw [vl, hS5]; decide), fun r5 k5 => ⟨4001, rfl, r5, _, rfl, SqL.of upd_same, fun a5 k6 => ?_⟩⟩
  rw [show cutV (List.replicate (801 : Int).toNat vs).flatten none (some 4001) = (List.replicate 801 vs).flatten.take 4001 from cut_take _ 4001]
  have u5 := same_upd (o := .lst (List.replicate (801 : Int).toNat vs).flatten) k5
  have u6 := same_upd (o := .lst ((List.replicate 801 vs).flatten.take 4001)) k6
  have u56 := u5.trans u6
  have h5 := upd_same (H := upd H13 r5 (.lst (List.replicate (801 : Int).toNat vs).flatten)) (a := a5) (o := .lst ((List.replicate 801 vs).flatten.take 4001))
  generalize upd (upd H13 r5 (.lst (List.replicate (801 : Int).toNat vs).flatten)) a5 (.lst ((List.replicate 801 vs).flatten.take 4001)) = H14 at u56 h5 ⊢
  have hx14 := hx13.mono fun v y (k : Nd H13 v y) => k.same u56
  have x5 := (hx14.rep 801).takeN 4001
  have b5 : ∀ y ∈ ((List.replicate 801 S).flatten.take 4001), y.1 ≤ 10 ^ 30 ∧ y.2 ≤ 10 ^ 30 := fun y m => by
    have m2 := List.mem_of_mem_take m
    rw [List.mem_flatten] at m2
    obtain ⟨l, hl, hy⟩ := m2
    rw [List.eq_of_mem_replicate hl] at hy
    exact hbd y hy
  have l5 : ((List.replicate 801 vs).flatten.take 4001).length = 4001 := by rw [List.length_take, rep_len, vl, hS5]; decide
  have l5' : ((List.replicate 801 S).flatten.take 4001).length = 4001 := by rw [List.length_take, rep_len, hS5]; decide
  have q5 : NoS K H14 (.ref a5) := ⟨.inr ⟨a5, _, rfl, h5, by omega⟩, false, .list (((List.replicate 801 S).flatten.take 4001).map nd), 2, by decide, .inr (.inr ⟨a5, _, _, rfl, h5, rfl, (fun z => nomatch z), nds_rp x5⟩), tn_big (fun d m => (nds_tn b5 d m).le (by decide)) (by rw [List.length_map, l5']; decide)⟩
  have q1 := q1.same u56
  have q2 := q2.same u56
  have q3 := q3.same u56
  have q4 := q4.same u56
  have hp14 := u56 _ _ hp13
  have B14 := B13.trans (But.of u56)
  have hb14 := hb13.same u56
  clear hp13 hx13 B13 hb13 u5 u6 u56 k5 k6 h5 x5 b5 l5 l5'
  refine ⟨one1, fun l6 k7 => ⟨l6, 4001, _, rfl, rfl, upd_same, by decide, by decide, by show 1 * 4001 ≤ sizeLine; exact sl _ (by decide), fun a6 k8 => ?_⟩⟩
  have u7 := same_upd (o := .lst [.non]) k7
  have u8 := same_upd (o := .lst (List.replicate (4001 : Int).toNat [V.non]).flatten) k8
  have u78 := u7.trans u8
  have h6 := upd_same (H := upd H14 l6 (.lst [.non])) (a := a6) (o := .lst (List.replicate (4001 : Int).toNat [V.non]).flatten)
  generalize upd (upd H14 l6 (.lst [.non])) a6 (.lst (List.replicate (4001 : Int).toNat [V.non]).flatten) = H15 at u78 h6 ⊢
  have x6 : All2 (Rp false 0 H15) (List.replicate 4001 [V.non]).flatten (List.replicate 4001 [PyData.none]).flatten := (All2.cons (.inl ⟨rfl, rfl⟩) .nil : All2 (Rp false 0 H15) [V.non] [PyData.none]).rep 4001
  have b6 : ∀ d ∈ (List.replicate 4001 [PyData.none]).flatten, Tn 600 d := fun d m => by
    rw [List.mem_flatten] at m
    obtain ⟨l, hl, hy⟩ := m
    rw [List.eq_of_mem_replicate hl, List.mem_singleton] at hy
    rw [hy]
    exact tn_none.le (by decide)
  have l6' : (List.replicate (4001 : Int).toNat [V.non]).flatten.length = 4001 := by rw [rep_len]; rfl
  have q6 : NoS K H15 (.ref a6) := ⟨.inr ⟨a6, _, rfl, h6, by omega⟩, false, .list (List.replicate 4001 [PyData.none]).flatten, 1, by decide, .inr (.inr ⟨a6, _, _, rfl, h6, rfl, (fun z => nomatch z), x6⟩), tn_big b6 (by rw [rep_len]; decide)⟩
  have q1 := q1.same u78
  have q2 := q2.same u78
  have q3 := q3.same u78
  have q4 := q4.same u78
  have q5 := q5.same u78
  have hp15 := u78 _ _ hp14
  have hx15 := hx14.mono fun v y (k : Nd H14 v y) => k.same u78
  have B15 := B14.trans (But.of u78)
  have hb15 := hb14.same u78
  clear hp14 hx14 B14 hb14 u7 u8 u78 k7 k8 h6 x6 b6 l6'
  refine ⟨(by show 10 ≤ sizeLine; decide), fun o2 k9 => ?_⟩
  have u9 := same_upd (o := .lst [.non, .int 0, .bl true, .str "0-1", .ref a1, .ref a2, .ref a3, .ref a4, .ref a5, .ref a6]) k9
  have ho2 := upd_same (H := H15) (a := o2) (o := .lst [.non, .int 0, .bl true, .str "0-1", .ref a1, .ref a2, .ref a3, .ref a4, .ref a5, .ref a6])
  generalize upd H15 o2 (.lst [.non, .int 0, .bl true, .str "0-1", .ref a1, .ref a2, .ref a3, .ref a4, .ref a5, .ref a6]) = H16 at u9 ho2 ⊢
  have hI2 : ∀ y ∈ [V.non, .int 0, .bl true, .str "0-1", .ref a1, .ref a2, .ref a3, .ref a4, .ref a5, .ref a6], NoS K H16 y := by
    intro y hy
    simp only [List.mem_cons, List.not_mem_nil, or_false] at hy
    rcases hy with rfl | rfl | rfl | rfl | rfl | rfl | rfl | rfl | rfl | rfl
    · exact ⟨.inl ⟨_, .non, by decide⟩, false, _, 0, by decide, rpz_sd rfl, okS_non.2.le (sl _ (by decide))⟩
    · exact ⟨.inl ⟨_, .int _, by decide⟩, false, _, 0, by decide, rpz_sd rfl, (okS_int (by decide)).2.le (sl _ (by decide))⟩
    · exact ⟨.inl ⟨_, .bl _, by decide⟩, false, _, 0, by decide, rpz_sd rfl, (okS_bl _).2.le (sl _ (by decide))⟩
    · exact ⟨.inl ⟨_, .str _, by decide⟩, false, _, 0, by decide, rpz_sd rfl, (okS_str (by decide +kernel)).2.le (sl _ (by decide))⟩
    · exact q1.same u9
    · exact q2.same u9
    · exact q3.same u9
    · exact q4.same u9
    · exact q5.same u9
    · exact q6.same u9
  have hp16 := u9 _ _ hp15
  have hx16 := hx15.mono fun v y (k : Nd H15 v y) => k.same u9
  have B16 := B15.trans (But.of u9)
  have hb16 := hb15.same u9
  generalize [V.non, .int 0, .bl true, .str "0-1", .ref a1, .ref a2, .ref a3, .ref a4, .ref a5, .ref a6] = O2 at ho2 hI2
  clear hp15 hx15 B15 hb15 u9 k9 q1 q2 q3 q4 q5 q6
  have eN : wNode .non = "InvalidNodes None" := by decide +kernel
  refine ⟨o2, rfl, ⟨_, SqL.of ho2⟩, for_list (K := K) (a := o2) (xs := O2) (fun i σ H' => ∃ v5 : Option V, σ = [some (.ref a), some (.int cell), some (.ref b), some (.int (n : Int)), some (.ref p), v5, v6, v7] ∧ Same H16 H')
    ⟨v5, rfl, Same.refl _⟩ (fun i σ H' _ ⟨_, _, s5⟩ => SqL.of (s5 _ _ ho2)) ?_ ?_⟩
  · rintro i y σ G hi ⟨v5, rfl, sm⟩
    obtain ⟨h1, dk, d, k, hk, h2, h3⟩ := (hI2 y (List.mem_of_getElem? hi)).same sm
    refine ⟨_, rfl, _, rfl, .int (n : Int), y, _, d, dk, k, _, rfl, .int _, hk, h2, h3, .inr ⟨n, rfl, by omega, n30, .inl ⟨h1, rfl⟩⟩, fun G1 s1 => ?_⟩
    exact ⟨rfl, false, ne_no (congrArg V.str eN), _, rfl, sm.trans s1⟩
  rintro σ H17 ⟨v5, rfl, sm⟩
  have hp17 := sm _ _ hp16
  have hx17 := hx16.mono fun v y (k : Nd H16 v y) => k.same sm
  have B17 := B16.trans (But.of sm)
  have hb17 := hb16.same sm
  clear hp16 hx16 B16 hb16 sm ho2 hI2
  -- one item that is no node
  refine ⟨_, rfl, _, rfl, p, vs, rfl, .inl (SqL.of hp17), b, (vs.length : Int), rfl, by omega, by rw [vl, hS5]; decide, hb17, fun r4 H18 r40 r41 k18 hb18 => ?_⟩
  have pb : p ≠ b := fun z => by
    obtain ⟨_, _, _, hz⟩ := hb17
    rw [← z, hp17] at hz
    have := Option.some.inj hz
    have e2 : vs.length = 3 := by
      have e3 := HO.lst.inj this
      rw [e3]
      rfl
    omega
  have hp18 : H18 p = some (.lst vs) := by rw [k18 p pb]; exact hp17
  have hx18 : All2 (Nd H18) vs S := hx17.mono fun v y ⟨q, e, hq⟩ => ⟨q, e, by
    rw [k18 q (fun z => by
      obtain ⟨_, _, _, hz⟩ := hb17
      rw [← z, hq] at hz
      cases hz)]
    exact hq⟩
  have B18 := B17.pick k18
  obtain ⟨at_, ea⟩ : ∃ j : Nat, r4 = (j : Int) := ⟨r4.toNat, by omega⟩
  subst ea
  have at5 : at_ < 5 := by omega
  clear hp17 hx17 B17 hb17 k18 r40 r41
  refine ⟨_, rfl, n, rfl, n9, n30, fun H19 o3 O3 u19 ho3 hB l40 => ?_⟩
  have hp19 := u19 _ _ hp18
  have hx19 := hx18.mono fun v y (k : Nd H18 v y) => k.same u19
  have B19 := B18.trans (But.of u19)
  have hb19 := hb18.same u19
  clear hp18 hx18 B18 hb18 u19
  refine ⟨o3, rfl, ⟨_, SqL.of ho3⟩, for_list (K := K) (a := o3) (xs := O3) (fun i σ H' => ∃ v5 v6 : Option V, σ = [some (.ref a), some (.int cell), some (.ref b), some (.int (n : Int)), some (.ref p), v5, v6, some (.int (at_ : Int))] ∧ Same H19 H')
    ⟨v5, v6, rfl, Same.refl _⟩ (fun i σ H' _ ⟨_, _, _, s5⟩ => SqL.of (s5 _ _ ho3)) ?_ ?_⟩
  · rintro i y σ G hi ⟨v5, v6, rfl, sm⟩
    have hy := (hB y (List.mem_of_getElem? hi)).same sm
    have hpG := sm _ _ hp19
    have hxG := hx19.mono fun v y (k : Nd H19 v y) => k.same sm
    obtain ⟨hA, dk, dB, hdB, tdB⟩ := hy
    have eT : cutV vs none (some (at_ : Int)) = vs.take at_ := cut_take vs at_
    have eD : cutV vs (some ((at_ : Int) + 1)) none = vs.drop (at_ + 1) := cut_drop vs (at_ + 1)
    refine ⟨_, rfl, _, rfl, _, rfl, _, rfl, p, vs, rfl, SqL.of hpG, fun c1 n1 => ⟨_, rfl, one1, fun l1 m1 => ?_⟩⟩
    rw [eT] at m1 ⊢
    have w1 := same_upd (o := .lst (vs.take at_)) n1
    have w2 := same_upd (o := .lst [y]) m1
    have g1 := w2 _ _ (upd_same (H := G) (a := c1) (o := .lst (vs.take at_)))
    have g2 := upd_same (H := upd G c1 (.lst (vs.take at_))) (a := l1) (o := .lst [y])
    have w12 := w1.trans w2
    generalize upd (upd G c1 (.lst (vs.take at_))) l1 (.lst [y]) = G2 at g1 g2 w12 ⊢
    have lt : (vs.take at_).length = at_ := by rw [List.length_take, vl, hS5]; omega
    refine ⟨c1, l1, _, _, rfl, rfl, g1, g2, sl _ (by rw [lt]; show at_ + 1 ≤ 5000; omega), fun e1 ne1 _ => ?_⟩
    have w3 := same_upd (o := .lst (vs.take at_ ++ [y])) ne1
    have g3 := upd_same (H := G2) (a := e1) (o := .lst (vs.take at_ ++ [y]))
    have w13 := w12.trans w3
    generalize upd G2 e1 (.lst (vs.take at_ ++ [y])) = G3 at g3 w13 ⊢
    refine ⟨_, rfl, _, rfl, _, _, rfl, rfl, _, rfl, p, vs, rfl, SqL.of (w13 _ _ hpG), fun c2 n2 => ?_⟩
    rw [eD]
    have w4 := same_upd (o := .lst (vs.drop (at_ + 1))) n2
    have g4 := upd_same (H := G3) (a := c2) (o := .lst (vs.drop (at_ + 1)))
    have g3b := w4 _ _ g3
    have w14 := w13.trans w4
    generalize upd G3 c2 (.lst (vs.drop (at_ + 1))) = G4 at g3b g4 w14 ⊢
    have ld : (vs.drop (at_ + 1)).length = 4 - at_ := by rw [List.length_drop, vl, hS5]; omega
    refine ⟨e1, c2, _, _, rfl, rfl, g3b, g4, sl _ (by rw [List.length_append, List.length_singleton, lt, ld]; omega), fun e2 ne2 e2s => ?_⟩
    have w5 := same_upd (o := .lst (vs.take at_ ++ [y] ++ vs.drop (at_ + 1))) ne2
    have g5 := upd_same (H := G4) (a := e2) (o := .lst (vs.take at_ ++ [y] ++ vs.drop (at_ + 1)))
    have w15 := w14.trans w5
    generalize upd G4 e2 (.lst (vs.take at_ ++ [y] ++ vs.drop (at_ + 1))) = G5 at g5 w15 ⊢
    have hx5 := hxG.mono fun v y (k : Nd G v y) => k.same w15
    have xt := hx5.takeN at_
    have xd := hx5.dropN (at_ + 1)
    have tT : ∀ d ∈ (S.take at_).map nd, Tn 600 d := fun d m => by
      obtain ⟨z, hz, rfl⟩ := List.mem_map.mp m
      exact (nd_tn (hbd z (List.mem_of_mem_take hz))).le (by decide)
    have tD : ∀ d ∈ (S.drop (at_ + 1)).map nd, Tn 600 d := fun d m => by
      obtain ⟨z, hz, rfl⟩ := List.mem_map.mp m
      exact (nd_tn (hbd z (List.mem_of_mem_drop hz))).le (by decide)
    have lS : ((S.take at_).map nd ++ [dB] ++ (S.drop (at_ + 1)).map nd).length ≤ 5000 := by
      rw [List.length_append, List.length_append, List.length_map, List.length_map, List.length_take, List.length_drop, List.length_singleton, hS5]
      omega
    have tA : Tn sizeLine (.list ((S.take at_).map nd ++ [dB] ++ (S.drop (at_ + 1)).map nd)) := tn_big (fun d m => by
      rcases List.mem_append.mp m with m | m
      · rcases List.mem_append.mp m with m | m
        · exact tT d m
        · rw [List.mem_singleton] at m
          rw [m]
          exact tdB
      · exact tD d m) lS
    have rA : Rp dk 3 G5 (.ref e2) (.list ((S.take at_).map nd ++ [dB] ++ (S.drop (at_ + 1)).map nd)) := .inr (.inr ⟨e2, _, _, rfl, g5, rfl, (fun _ => e2s),
      (((nds_rp xt).mono fun v d (k : Rp dk 1 G5 v d) => k.up).app (.cons (hdB.same w15) .nil)).app ((nds_rp xd).mono fun v d (k : Rp dk 1 G5 v d) => k.up)⟩)
    have aT : ∀ {G' : Hp}, Same G G' → ∀ (tl : List V) (j : Nat) (z : V), j < at_ → (vs.take at_ ++ tl)[j]? = some z → Ask K G' n z true := fun {G'} sg tl j z hj hz => by
      rw [List.getElem?_append_left (by rw [lt]; exact hj)] at hz
      obtain ⟨x, hx, nx⟩ := ((hxG.takeN at_).nth hz)
      exact ask_nd (nx.same sg) (hN x (List.mem_of_mem_take (List.mem_of_getElem? hx)))
    have nA : NodesAt K G5 n 0 4000 (.ref e2) at_ := ⟨e2, _, y, rfl, g5, Nat.zero_le _, (by rw [List.length_append, List.length_append, List.length_singleton, lt, ld]; omega),
      (fun j z hj hz => aT w15 _ j z hj (by rw [List.append_assoc] at hz; exact hz)),
      (by rw [List.append_assoc, List.getElem?_append_right (by rw [lt]; exact Nat.le_refl _), lt, Nat.sub_self]; rfl), hA.same w15⟩
    refine ⟨.int (n : Int), .ref e2, _, _, dk, 3, _, rfl, .int _, by decide, rA, tA, .inr ⟨n, rfl, by omega, n30, .inr (.inl ⟨at_, nA, rfl⟩)⟩, fun G6 s6 => ?_⟩
    clear rA tA nA xt xd tT tD lS hx5 g5 e2s
    have w16 := w15.trans s6
    have hp6 := w16 _ _ hpG
    refine ⟨_, rfl, _, rfl, _, rfl, _, rfl, p, vs, rfl, SqL.of hp6, fun c3 n3 => ⟨_, rfl, two, fun l3 m3 => ?_⟩⟩
    rw [eT] at m3 ⊢
    have w7 := same_upd (o := .lst (vs.take at_)) n3
    have w8 := same_upd (o := .lst [y, .non]) m3
    have g7 := w8 _ _ (upd_same (H := G6) (a := c3) (o := .lst (vs.take at_)))
    have g8 := upd_same (H := upd G6 c3 (.lst (vs.take at_))) (a := l3) (o := .lst [y, .non])
    have w18 := w16.trans (w7.trans w8)
    generalize upd (upd G6 c3 (.lst (vs.take at_))) l3 (.lst [y, .non]) = G8 at g7 g8 w18 ⊢
    refine ⟨c3, l3, _, _, rfl, rfl, g7, g8, sl _ (by rw [lt]; show at_ + 2 ≤ 5000; omega), fun e3 ne3 e3s => ?_⟩
    have w9 := same_upd (o := .lst (vs.take at_ ++ [y, .non])) ne3
    have g9 := upd_same (H := G8) (a := e3) (o := .lst (vs.take at_ ++ [y, .non]))
    have w19 := w18.trans w9
    generalize upd G8 e3 (.lst (vs.take at_ ++ [y, .non])) = G9 at g9 w19 ⊢
    have hx9 := hxG.mono fun v y (k : Nd G v y) => k.same w19
    have lS2 : ((S.take at_).map nd ++ [dB, .none]).length ≤ 5000 := by
      rw [List.length_append, List.length_map, List.length_take, hS5]
      show min at_ 5 + 2 ≤ 5000
      omega
    have tA2 : Tn sizeLine (.list ((S.take at_).map nd ++ [dB, .none])) := tn_big (fun d m => by
      rcases List.mem_append.mp m with m | m
      · obtain ⟨z, hz, rfl⟩ := List.mem_map.mp m
        exact (nd_tn (hbd z (List.mem_of_mem_take hz))).le (by decide)
      · rcases List.mem_cons.mp m with rfl | m
        · exact tdB
        · rw [List.mem_singleton] at m
          rw [m]
          exact tn_none.le (by decide)) lS2
    have rA2 : Rp dk 3 G9 (.ref e3) (.list ((S.take at_).map nd ++ [dB, .none])) := .inr (.inr ⟨e3, _, _, rfl, g9, rfl, (fun _ => e3s),
      ((nds_rp (hx9.takeN at_)).mono fun v d (k : Rp dk 1 G9 v d) => k.up).app (.cons (hdB.same w19) (.cons (.inl (.inl ⟨rfl, rfl⟩)) .nil))⟩)
    have nA2 : NodesAt K G9 n 0 4000 (.ref e3) at_ := ⟨e3, _, y, rfl, g9, Nat.zero_le _, (by rw [List.length_append, lt]; show at_ + 2 ≤ 4000; omega), (fun j z hj hz => aT w19 _ j z hj hz),
      (by rw [List.getElem?_append_right (by rw [lt]; exact Nat.le_refl _), lt, Nat.sub_self]; rfl), hA.same w19⟩
    refine ⟨.int (n : Int), .ref e3, _, _, dk, 3, _, rfl, .int _, by decide, rA2, tA2, .inr ⟨n, rfl, by omega, n30, .inr (.inl ⟨at_, nA2, rfl⟩)⟩, fun G10 s10 => ⟨two, fun l4 m4 => ?_⟩⟩
    clear rA2 tA2 nA2 hx9 g9 e3s
    have w20 := w19.trans s10
    have v1 := same_upd (o := .lst [.str (wNode (.int (at_ : Int))), .str (wNode (.int (at_ : Int)))]) m4
    have h4 := upd_same (H := G10) (a := l4) (o := .lst [.str (wNode (.int (at_ : Int))), .str (wNode (.int (at_ : Int)))])
    have w21 := w20.trans v1
    generalize upd G10 l4 (.lst [.str (wNode (.int (at_ : Int))), .str (wNode (.int (at_ : Int)))]) = G11 at h4 w21 ⊢
    have at6 : at_ ≤ 10 ^ 6 := Nat.le_trans (Nat.le_of_lt at5) (by decide)
    have eW : ("InvalidNodes " : Str) ++ Str.ofString (toString (at_ : Int)) = wNode (.int (at_ : Int)) := by
      show _ = ("InvalidNodes" : Str) ++ (" " : Str) ++ Str.ofString (toString (at_ : Int))
      rw [show ("InvalidNodes" : Str) ++ (" " : Str) = "InvalidNodes " from by decide +kernel]
    have okW : ([wNode (.int (at_ : Int)), wNode (.int (at_ : Int))].all PyData.strOk) = true := by
      have : PyData.strOk (wNode (.int (at_ : Int))) = true := by
        rw [← eW]
        exact okSt_app (okSt_of _) (okSt_of _)
      rw [List.all_cons, List.all_cons, this]
      rfl
    refine ⟨_, rfl, _, rfl, _, rfl, (rep_nat at6).1, ?_⟩
    have lI : ("InvalidNodes " : Str).length = 13 := by decide +kernel
    have lW := (rep_nat at6).2
    refine ⟨_, _, rfl, rfl, szle (by
      have : (Str.ofString (toString (at_ : Int))).length ≤ 100 := lW
      show ("InvalidNodes " : Str).length + (Str.ofString (toString (at_ : Int))).length ≤ 100000
      omega), one1, fun l5 m5 => ?_⟩
    refine ⟨l5, 2, _, rfl, rfl, upd_same, by decide, by decide, by show 1 * 2 ≤ sizeLine; decide, fun r5 n5 => ?_⟩
    have v2 := same_upd (o := .lst [.str (("InvalidNodes " : Str) ++ Str.ofString (toString (at_ : Int)))]) m5
    have v3 := same_upd (o := .lst (List.replicate (2 : Int).toNat [V.str (("InvalidNodes " : Str) ++ Str.ofString (toString (at_ : Int)))]).flatten) n5
    have ee : PyData.eqv (stD [wNode (.int (at_ : Int)), wNode (.int (at_ : Int))]) (stD [("InvalidNodes " : Str) ++ Str.ofString (toString (at_ : Int)), ("InvalidNodes " : Str) ++ Str.ofString (toString (at_ : Int))]) = true := by
      rw [eW]
      exact stD_eqv _
    refine ⟨stD [wNode (.int (at_ : Int)), wNode (.int (at_ : Int))], stD [("InvalidNodes " : Str) ++ Str.ofString (toString (at_ : Int)), ("InvalidNodes " : Str) ++ Str.ofString (toString (at_ : Int))], stD_dp (v3 _ _ (v2 _ _ h4)), stD_dp upd_same, stD_shaped okW, stD_shaped (by rw [eW]; exact okW), ?_⟩
    rw [ee]
    refine ⟨false, rfl, ?_⟩
    exact ⟨_, _, rfl, sm.trans (w21.trans (v2.trans v3))⟩
  -- what is taken
  rintro σ H20 ⟨v5, v6, rfl, sm⟩
  have hp20 := sm _ _ hp19
  have hx20 := hx19.mono fun v y (k : Nd H19 v y) => k.same sm
  have B20 := B19.trans (But.of sm)
  clear hp19 hx19 B19 hb19 sm ho3 hB
  have three : 3 ≤ sizeLine := by decide
  refine ⟨_, rfl, _, rfl, .int (n : Int), .ref p, _, _, false, 2, _, rfl, .int _, by decide, rpS hp20 hx20, szS, .inr ⟨n, rfl, by omega, n30, .inr (.inr ⟨rfl, p, vs, S, rfl, hp20, hx20, by omega, hN⟩)⟩, fun G1 s1 => ?_⟩
  refine ⟨_, rfl, Nat.zero_le _, fun l6 m6 => ?_⟩
  have w6 := same_upd (o := .lst []) m6
  refine ⟨.int (n : Int), .ref l6, _, .list [], false, 1, _, rfl, .int _, by decide, .inr (.inr ⟨l6, _, _, rfl, upd_same, rfl, (fun z => nomatch z), .nil⟩), tn_big (fun _ h => absurd h List.not_mem_nil) (by decide), .inr ⟨n, rfl, by omega, n30, .inr (.inr ⟨rfl, l6, [], [], rfl, upd_same, .nil, by decide, fun _ h => absurd h List.not_mem_nil⟩)⟩, fun G2 s2 => ?_⟩
  have w7 := s1.trans (w6.trans s2)
  have hp21 := w7 _ _ hp20
  have hx21 := hx20.mono fun v y (k : Nd H20 v y) => k.same w7
  refine ⟨_, rfl, _, rfl, p, 800, vs, rfl, rfl, hp21, by decide, by decide, sl _ (by rw [vl, hS5]; decide), fun r7 m7 => ⟨4000, rfl, r7, _, rfl, SqL.of upd_same, fun c7 m8 => ?_⟩⟩
  rw [show cutV (List.replicate (800 : Int).toNat vs).flatten none (some 4000) = (List.replicate 800 vs).flatten.take 4000 from cut_take _ 4000]
  have w8 := same_upd (o := .lst (List.replicate (800 : Int).toNat vs).flatten) m7
  have w9 := same_upd (o := .lst ((List.replicate 800 vs).flatten.take 4000)) m8
  have h7 := upd_same (H := upd G2 r7 (.lst (List.replicate (800 : Int).toNat vs).flatten)) (a := c7) (o := .lst ((List.replicate 800 vs).flatten.take 4000))
  have w89 := w8.trans w9
  generalize upd (upd G2 r7 (.lst (List.replicate (800 : Int).toNat vs).flatten)) c7 (.lst ((List.replicate 800 vs).flatten.take 4000)) = G3 at h7 w89 ⊢
  have x7 := ((hx21.mono fun v y (k : Nd G2 v y) => k.same w89).rep 800).takeN 4000
  have i7 : ∀ y ∈ ((List.replicate 800 S).flatten.take 4000), isN n y := fun y m => by
    have m2 := List.mem_of_mem_take m
    rw [List.mem_flatten] at m2
    obtain ⟨l, hl, hy⟩ := m2
    rw [List.eq_of_mem_replicate hl] at hy
    exact hN y hy
  have l7 : ((List.replicate 800 S).flatten.take 4000).length ≤ 4000 := by rw [List.length_take]; exact Nat.min_le_left _ _
  refine ⟨.int (n : Int), .ref c7, _, _, false, 2, _, rfl, .int _, by decide, .inr (.inr ⟨c7, _, _, rfl, h7, rfl, (fun z => nomatch z), nds_rp x7⟩), tn_big (fun d m => (nds_tn (fun y hy => isN_bd n30 (i7 y hy)) d m).le (by decide)) (by rw [List.length_map]; omega),
    .inr ⟨n, rfl, by omega, n30, .inr (.inr ⟨rfl, c7, _, _, rfl, h7, x7, l7, i7⟩)⟩, fun G4 s4 => ⟨three, fun l8 n8 => ?_⟩⟩
  have w10 := same_upd (o := .lst [.str "fine", .str "fine", .str "fine"]) n8
  have h8 := upd_same (H := G4) (a := l8) (o := .lst [.str "fine", .str "fine", .str "fine"])
  have u30 := w7.trans (w89.trans (s4.trans w10))
  generalize upd G4 l8 (.lst [.str "fine", .str "fine", .str "fine"]) = G5 at h8 u30 ⊢
  refine ⟨_, rfl, _, rfl, .int (n : Int), _, _, "fine", rfl, .int _, .inr ⟨n, [(0, 1)], rfl, by rw [← t01], by omega, n30, by decide, (fun x hx => by
    rw [List.mem_singleton] at hx
    rw [hx]
    exact ⟨by show (0 : Nat) < 1; decide, by show 1 ≤ n; omega, Nat.dvd_zero _, .inl (by show (1 : Nat) = 2 ^ lb 1; decide +kernel)⟩), rfl⟩, fun G6 s6 => ⟨one1, fun l9 n9' => ?_⟩⟩
  have w11 := same_upd (o := .lst [.str "fine"]) n9'
  have h9 := upd_same (H := G6) (a := l9) (o := .lst [.str "fine"])
  have h8b := w11 _ _ (s6 _ _ h8)
  have u31 := u30.trans (s6.trans w11)
  generalize upd G6 l9 (.lst [.str "fine"]) = G7 at h9 h8b u31 ⊢
  refine ⟨l8, l9, _, _, rfl, rfl, h8b, h9, sl _ (by decide), fun r9 m9 => ?_⟩
  have w12 := same_upd (o := .lst ([V.str "fine", .str "fine", .str "fine"] ++ [.str "fine"])) m9
  have h10 := upd_same (H := G7) (a := r9) (o := .lst ([V.str "fine", .str "fine", .str "fine"] ++ [.str "fine"]))
  have u32 := u31.trans w12
  generalize upd G7 r9 (.lst ([V.str "fine", .str "fine", .str "fine"] ++ [.str "fine"])) = G8 at h10 u32 ⊢
  refine ⟨one1, fun l10 n10 => ⟨l10, 4, _, rfl, rfl, upd_same, by decide, by decide, by show 1 * 4 ≤ sizeLine; decide, fun r10 m10 => ?_⟩⟩
  have w13 := same_upd (o := .lst [.str "fine"]) n10
  have w14 := same_upd (o := .lst (List.replicate (4 : Int).toNat [V.str "fine"]).flatten) m10
  refine ⟨stD ["fine", "fine", "fine", "fine"], stD ["fine", "fine", "fine", "fine"], stD_dp (w14 _ _ (w13 _ _ h10)), stD_dp upd_same, stD_shaped (by decide +kernel), stD_shaped (by decide +kernel), ?_⟩
  rw [stD_eqv]
  refine ⟨false, rfl, ?_⟩
  exact ⟨_, _, _, _, _, _, _, rfl, fun u o k => (B20.trans (But.of (u32.trans (w13.trans w14)))) u o (ne_of_none k nb0) k⟩
end
end LT

namespace LT
open PySem PySem.Spec PyProof.Rows L2
def clsInit : Stmt → Stmt
  | .ClassDef _ _ _ body _ _ _ _ _ _ _ => body.getD 0 (.Pass ⟨0, 0, 0, 0⟩)
  | s => s
/-- what the written part says of an __init__ -/
def InitK (P : Program) (K : PySem.W.Frag) (C : Addr) (st : Stmt) (q : Str) : Prop := ∃ (fI cda cc : Addr) (oc : Value) (od : Option Addr) (osl : Array (Option Value)) (kV doc pm ct : Value) (an : Option Addr) (ccl : Value) (cdd : Option Addr) (ccs : Array (Option Value)) (vs : Array Value) (file : Str) (tf : Tok) (cl : Value) (cld : Option Addr) (csl : Array (Option Value)),
  PySem.W.findIn K (.ref C) "__init__" = some (some (.ref fI)) ∧ K.lookup fI = some ⟨oc, od, .func (PySem.W.ksFn "__init__" q (defArgs st) (defBody st) (defScope st) .none kV doc pm an (.ref cda) ct cc), osl⟩ ∧ PySem.W.typeIn K (.ref fI) = some (.type "function") ∧
  PySem.W.codeIn K (.ref cda) q = true ∧ K.lookup cda = some ⟨ccl, cdd, .fields vs, ccs⟩ ∧ K.lookup cc = some ⟨cl, cld, .cell (some (.ref C)), csl⟩ ∧ vs[2]? = some (.str file tf) ∧ ((P.main.file : Str) == file) = true
/-- and of the class -/
structure SupK (P : Program) (K : PySem.W.Frag) (mg : Str → Option Value) (C : Addr) (fld : Str) : Prop where
  ex : OexC K C
  nofld : PySem.W.findIn K (.ref C) fld = some none
  sup : PySem.W.ks_superIn K C C "__init__" = some (some (.builtin "ValueError.__init__"))
  ve : PySem.W.subIn K (.ref C) (.type "ValueError") = some true
  own : PySem.W.mroIn K C (.ref C) = some true
  opq : PySem.W.nsIn K cStatics "thirdparty.any" = some none
  top : (P.main.scope.names.lookup ("super" : Str)).isSome = false
  z : mg "super" = none
section
variable {P : Program} {w : World} {K : PySem.W.Frag} {mg : Str → Option Value} {base : Heap} {C : Addr}
abbrev sIInvalidSpans : Stmt := clsInit (topS 2)
theorem ssIInvalidSpans : SScope "item" (defScope sIInvalidSpans) := ⟨rfl, rfl, rfl, rfl, rfl, rfl, rfl, by decide +kernel, by decide +kernel, by decide, by decide, by decide⟩
theorem sxInvalidSpans (g : mg "InvalidSpans" = some (.ref C)) (T : SupK P K mg C "item") (I : InitK P K C sIInvalidSpans "InvalidSpans.__init__") : SX P w K mg base "InvalidSpans" C "item" := by
  obtain ⟨fI, cda, cc, oc, od, osl, kV, doc, pm, ct, an, ccl, cdd, ccs, vs, file, tf, cl, cld, csl, i1, i2, i3, i4, i5, i6, i7, i8⟩ := I
  have S : Sup P K mg C cda cc "item" := ⟨T.ex, T.nofld, T.sup, T.ve, T.own, T.opq, ⟨cl, cld, csl, i6⟩, ⟨ccl, cdd, ccs, vs, file, tf, i5, i7, i8⟩, T.top, T.z⟩
  exact ⟨g, T.ex, fI, _, ["self", "item"], i1, i3, ok_init_super (k := 0) (lit := "invalid spans, first wrong item: ") i2 i4 ssIInvalidSpans S (by decide) rfl rfl (fun _ => ⟨_, rfl⟩) (fun _ => rfl) (fun _ => rfl), Binds.all fun us hl => match us, hl with | [_, _], _ => rfl⟩
abbrev sIInvalidNodes : Stmt := clsInit (topS 3)
theorem ssIInvalidNodes : SScope "item" (defScope sIInvalidNodes) := ⟨rfl, rfl, rfl, rfl, rfl, rfl, rfl, by decide +kernel, by decide +kernel, by decide, by decide, by decide⟩
theorem sxInvalidNodes (g : mg "InvalidNodes" = some (.ref C)) (T : SupK P K mg C "item") (I : InitK P K C sIInvalidNodes "InvalidNodes.__init__") : SX P w K mg base "InvalidNodes" C "item" := by
  obtain ⟨fI, cda, cc, oc, od, osl, kV, doc, pm, ct, an, ccl, cdd, ccs, vs, file, tf, cl, cld, csl, i1, i2, i3, i4, i5, i6, i7, i8⟩ := I
  have S : Sup P K mg C cda cc "item" := ⟨T.ex, T.nofld, T.sup, T.ve, T.own, T.opq, ⟨cl, cld, csl, i6⟩, ⟨ccl, cdd, ccs, vs, file, tf, i5, i7, i8⟩, T.top, T.z⟩
  exact ⟨g, T.ex, fI, _, ["self", "item"], i1, i3, ok_init_super (k := 0) (lit := "invalid nodes, first wrong item: ") i2 i4 ssIInvalidNodes S (by decide) rfl rfl (fun _ => ⟨_, rfl⟩) (fun _ => rfl) (fun _ => rfl), Binds.all fun us hl => match us, hl with | [_, _], _ => rfl⟩
abbrev sIInvalidBounds : Stmt := clsInit (topS 4)
theorem ssIInvalidBounds : SScope "item" (defScope sIInvalidBounds) := ⟨rfl, rfl, rfl, rfl, rfl, rfl, rfl, by decide +kernel, by decide +kernel, by decide, by decide, by decide⟩
theorem sxInvalidBounds (g : mg "InvalidBounds" = some (.ref C)) (T : SupK P K mg C "item") (I : InitK P K C sIInvalidBounds "InvalidBounds.__init__") : SX P w K mg base "InvalidBounds" C "item" := by
  obtain ⟨fI, cda, cc, oc, od, osl, kV, doc, pm, ct, an, ccl, cdd, ccs, vs, file, tf, cl, cld, csl, i1, i2, i3, i4, i5, i6, i7, i8⟩ := I
  have S : Sup P K mg C cda cc "item" := ⟨T.ex, T.nofld, T.sup, T.ve, T.own, T.opq, ⟨cl, cld, csl, i6⟩, ⟨ccl, cdd, ccs, vs, file, tf, i5, i7, i8⟩, T.top, T.z⟩
  exact ⟨g, T.ex, fI, _, ["self", "item"], i1, i3, ok_init_super (k := 0) (lit := "invalid bounds, first wrong item: ") i2 i4 ssIInvalidBounds S (by decide) rfl rfl (fun _ => ⟨_, rfl⟩) (fun _ => rfl) (fun _ => rfl), Binds.all fun us hl => match us, hl with | [_, _], _ => rfl⟩
abbrev sIInvalidText : Stmt := clsInit (topS 5)
theorem ssIInvalidText : SScope "part" (defScope sIInvalidText) := ⟨rfl, rfl, rfl, rfl, rfl, rfl, rfl, by decide +kernel, by decide +kernel, by decide, by decide, by decide⟩
theorem sxInvalidText (g : mg "InvalidText" = some (.ref C)) (T : SupK P K mg C "part") (I : InitK P K C sIInvalidText "InvalidText.__init__") : SX P w K mg base "InvalidText" C "part" := by
  obtain ⟨fI, cda, cc, oc, od, osl, kV, doc, pm, ct, an, ccl, cdd, ccs, vs, file, tf, cl, cld, csl, i1, i2, i3, i4, i5, i6, i7, i8⟩ := I
  have S : Sup P K mg C cda cc "part" := ⟨T.ex, T.nofld, T.sup, T.ve, T.own, T.opq, ⟨cl, cld, csl, i6⟩, ⟨ccl, cdd, ccs, vs, file, tf, i5, i7, i8⟩, T.top, T.z⟩
  exact ⟨g, T.ex, fI, _, ["self", "part"], i1, i3, ok_init_super (k := 0) (lit := "invalid text, first wrong part: ") i2 i4 ssIInvalidText S (by decide) rfl rfl (fun _ => ⟨_, rfl⟩) (fun _ => rfl) (fun _ => rfl), Binds.all fun us hl => match us, hl with | [_, _], _ => rfl⟩
abbrev sIOverBudget : Stmt := clsInit (topS 6)
theorem ssIOverBudget : SScope "count" (defScope sIOverBudget) := ⟨rfl, rfl, rfl, rfl, rfl, rfl, rfl, by decide +kernel, by decide +kernel, by decide, by decide, by decide⟩
theorem sxOverBudget (g : mg "OverBudget" = some (.ref C)) (T : SupK P K mg C "count") (I : InitK P K C sIOverBudget "OverBudget.__init__") : SX P w K mg base "OverBudget" C "count" := by
  obtain ⟨fI, cda, cc, oc, od, osl, kV, doc, pm, ct, an, ccl, cdd, ccs, vs, file, tf, cl, cld, csl, i1, i2, i3, i4, i5, i6, i7, i8⟩ := I
  have S : Sup P K mg C cda cc "count" := ⟨T.ex, T.nofld, T.sup, T.ve, T.own, T.opq, ⟨cl, cld, csl, i6⟩, ⟨ccl, cdd, ccs, vs, file, tf, i5, i7, i8⟩, T.top, T.z⟩
  exact ⟨g, T.ex, fI, _, ["self", "count"], i1, i3, ok_init_super (k := 0) (lit := "over the budget, sums that would be spent: ") i2 i4 ssIOverBudget S (by decide) rfl rfl (fun _ => ⟨_, rfl⟩) (fun _ => rfl) (fun _ => rfl), Binds.all fun us hl => match us, hl with | [_, _], _ => rfl⟩
end
end LT

namespace LT
open PySem PySem.Spec PyProof.Rows L2
section
variable {P : Program} {w : World} {K : PySem.W.Frag} {mg mb : Str → Option Value} {k : Nat} {fa a : Addr} {fd : FuncData} {x : Str} {sp : Sp} {s₁ : Shared} {vs : List Value} {ns : List Int}
/-- what is told of the heap ahead of the law's call: the script alone, where it is no object of the top -/
def told (K : PySem.W.Frag) (a : Addr) (ob : Obj) (ns : List Int) : Hp := fun b => if b = a ∧ K.lookup a = none then some (.frz ob (.lst (ns.map V.int))) else none
theorem told_at {ob : Obj} {b : Addr} {u : HO} (h : told K a ob ns b = some u) : b = a ∧ K.lookup a = none ∧ u = .frz ob (.lst (ns.map V.int)) := by
  unfold told at h
  by_cases c : b = a ∧ K.lookup a = none
  · rw [if_pos c] at h
    exact ⟨c.1, c.2, (Option.some.inj h).symm⟩
  · rw [if_neg c] at h
    cases h
/-- the law's call, from a promise that asks that nothing is being shown -/
theorem lawG (there : K.In s₁.heap) (globs : s₁.heap.Ns mainGlobals mg) (blts : s₁.heap.Ns builtinsNs mb) (boot : ∀ y : Str, y ≠ "__name__" → mb y = bootBuiltins y) (noLim : s₁.heap.NoLimit) (noGens : s₁.gens = #[])
    (obj : s₁.heap.get? a = some { cls := .type "list", data := .seq vs.toArray }) (areI : IntsAre vs ns) (few : ns.length ≤ sizeLine) (hr : Room k callerA)
    (F : ∀ base : Heap, K.In base → base.Ns mainGlobals mg → GOk P w K mg base k fa fd [x] sp) (binds : ∀ (s : Shared) (u : Value), BindsTo s fd ⟨[u], []⟩ [(x, u)])
    (keeps : ∀ H : Hp, Only H → SqL K H a (ns.map V.int) → sp [.ref a] H (fun v _ => v = .bl true) E0) :
    codeAny (model P w) callerA (.call (.ref fa) ⟨[.ref a], []⟩) (fun r s' => r = .ok (.ret (.bool true)) ∧ OldK s₁.heap s'.heap ∧ s'.os = s₁.os ∧ AllBare s'.gens) s₁ := by
  generalize ho : ({ cls := .type "list", data := .seq vs.toArray } : Obj) = ob at obj
  have items := vals_ints areI
  have only : Only (told K a ob ns) := by
    intro b
    cases q : told K a ob ns b with
    | none => exact Or.inl rfl
    | some u => exact Or.inr ⟨ob, ns.map V.int, by rw [(told_at q).2.2]⟩
  have sq : SqL K (told K a ob ns) a (ns.map V.int) := by
    cases q : K.lookup a with
    | none => exact Or.inl (Or.inr ⟨ob, if_pos ⟨rfl, q⟩⟩)
    | some o =>
      have same : o = ob := Option.some.inj ((there a o q).symm.trans obj)
      subst same
      subst ho
      refine Or.inr ⟨_, vs.toArray, _, q, rfl, rfl, rfl, ?_, by simpa using items⟩
      rw [List.size_toArray, areI.length]
      exact few
  have fits : HOk P w (told K a ob ns) s₁.heap := by
    intro b u q
    obtain ⟨rfl, _, rfl⟩ := told_at q
    subst ho
    exact ⟨obj, by rw [List.length_map]; exact few, vs, _, items, obj⟩
  have behind : ∀ {b : Addr} {o : Obj}, s₁.heap.get? b = some o → told K a ob ns b = none → (hidT s₁.heap (told K a ob ns)).get? b = some o := fun q n => hidT_get q n
  have nsp : ∀ {b : Addr} {m : Str → Option Value}, s₁.heap.Ns b m → (hidT s₁.heap (told K a ob ns)).Ns b m := by
    rintro b m ⟨o, es, ep, q, d, r⟩
    refine ⟨o, es, ep, behind q ?_, d, r⟩
    cases z : told K a ob ns b with
    | none => rfl
    | some u =>
      obtain ⟨rfl, _, _⟩ := told_at z
      rw [obj] at q
      cases q
      subst ho
      cases (show Data.seq vs.toArray _ = Data.dict es ep from d)
  have inB : K.In (hidT s₁.heap (told K a ob ns)) := by
    intro b o q
    refine behind (there b o q) ?_
    cases z : told K a ob ns b with
    | none => rfl
    | some u =>
      obtain ⟨rfl, n, _⟩ := told_at z
      rw [n] at q
      cases q
  have M : Mod K mg (hidT s₁.heap (told K a ob ns)) := by
    obtain ⟨mc, c1, c2⟩ := noLim
    exact ⟨inB, nsp globs, ⟨mb, nsp blts, boot⟩, ⟨mc, nsp c1, c2⟩⟩
  have ev : Env0 P w K mg (hidT s₁.heap (told K a ob ns)) callerA [] s₁ (told K a ob ns) :=
    { frames := rfl, mod := M, bs := fun _ _ q => of_hidT q, bsz := Nat.le_of_eq (hidT_size _ _), funs := trivial, frf := fun b q => absurd (show b ∈ ([] : List Addr) from q) List.not_mem_nil, hok := fits, bare := .of_eq noGens }
  have ran := (F _ inB (nsp globs)).run callerA [] s₁ (told K a ob ns) ⟨[.ref a], []⟩ [.ref a] [.ref a] _ rfl hr ev (binds s₁ (.ref a)) (.cons rfl .nil) (keeps _ only sq)
  apply codeAny_mono ran
  intro res s' h
  match res, h with
  | .error _, h => exact False.elim h
  | .ok .next, h => exact False.elim h
  | .ok .brk, h => exact False.elim h
  | .ok .cont, h => exact False.elim h
  | .ok (.ret u), ⟨v, H', os, bare, un, hok', rv, q⟩ =>
    have qv : v = .bl true := q
    subst qv
    have qu : u = Value.bool true := rv
    subst qu
    refine ⟨rfl, OldK.of_keep ?_, os, bare⟩
    intro b o q1
    cases z : told K a ob ns b with
    | none => exact un.keep b o q1 z (fun m => absurd (show b ∈ ([] : List Addr) from m) List.not_mem_nil) List.not_mem_nil
    | some c =>
      obtain ⟨rfl, n, rfl⟩ := told_at z
      obtain ⟨e1, _⟩ := fits _ _ z
      obtain ⟨e2, _⟩ := hok' _ _ (un.frzs _ _ _ z)
      rw [q1] at e1
      cases e1
      exact e2
end
theorem walkG {l : PySem.W.OpenLaw} {n k : Nat} {q : Program} {loose : List Str} {XP : (Str → Option Value) → Heap → Prop} {YP : World → Heap → Prop} {d : DefRec} {K : Params → PySem.W.Frag} {sp : World → Sp} {x : Str}
    (hn : l.most = some n) (hn2 : n ≤ sizeLine) (hdf : d.params.defaults = []) (hr : Room k callerA) (hY : ∀ (w : World) (h : Heap), YP w h → (K w.params).In h)
    (F : ∀ (w : World) (mg : Str → Option Value) (fa : Addr) (h : Heap), (K w.params).In h → h.Ns mainGlobals mg → mg d.name = some (.ref fa) →
      ∃ fd : FuncData, (∀ (s : Shared) (u : Value), BindsTo s fd ⟨[u], []⟩ [(x, u)]) ∧ ∀ base : Heap, (K w.params).In base → base.Ns mainGlobals mg → GOk l.prog w (K w.params) mg base k fa fd [x] (sp w))
    (keeps : ∀ (w : World) (H : Hp) (a : Addr) (ns : List Int), ns.length ≤ n → Only H → SqL (K w.params) H a (ns.map V.int) → sp w [.ref a] H (fun v _ => v = .bl true) E0) :
    PySem.W.WalkO q loose XP YP l.row.toRowW d [] (fun f vs => PySem.call f vs) := by
  apply Att.attach_call hn hdf
  intro w s₀ s₁ mg mb fa o pm cd doc a vs ns G Y ho hd hcd hmg hobj hints hlen hg
  obtain ⟨fd, hb, hF⟩ := F w mg fa _ (hY w _ Y) G.T.g hmg
  exact lawG (hY w _ Y) G.T.g G.T.b G.T.builtins G.T.nolimit hg hobj hints (Nat.le_trans hlen hn2) hr hF hb (fun H hO hS => keeps w H a ns hlen hO hS)
end LT

namespace LT
open PySem PySem.Spec PyProof.Rows L2
/-- isinstance of an own class, from what the top says of it -/
theorem kit_of {K : PySem.W.Frag} {C D : Addr} {b : Bool} (i : PySem.W.isClsIn K D = true) (t : PySem.W.typeIn K (.ref D) = some (.type "type")) (s : PySem.W.subIn K (.ref C) (.ref D) = some b) (z : PySem.W.subIn K (.ref C) (.ref C) = some true) : PySem.W.kitOne K (.ref C) (.ref D) = some b := by
  unfold PySem.W.kitOne
  split
  · rename_i h
    have e : C = D := Value.ref.inj (beq_iff_eq.mp h)
    subst e
    rw [z] at s
    exact s
  · show (if ((PySem.W.clsIn K D).isSome && PySem.W.typeIn K (.ref D) == some (.type "type")) = true then PySem.W.subIn K (.ref C) (.ref D) else none) = some b
    have i' : (PySem.W.clsIn K D).isSome = true := i
    have e : ((PySem.W.clsIn K D).isSome && PySem.W.typeIn K (.ref D) == some (.type "type")) = true := by rw [i', t] <;> rfl
    rw [if_pos e]
    exact s
theorem kit_ty0 {K : PySem.W.Frag} {C : Addr} {T : String} {b : Bool} (m : PySem.W.kitMeta T = true) (s : PySem.W.subIn K (.ref C) (.type T) = some b) : PySem.W.kitOne K (.ref C) (.type T) = some b := by
  unfold PySem.W.kitOne
  rw [if_neg (by intro h; exact absurd (beq_iff_eq.mp h) (fun z => nomatch z))]
  show (if PySem.W.kitMeta T = true then PySem.W.subIn K (.ref C) (.type T) else none) = some b
  rw [if_pos m]
  exact s
theorem all_mk {l : PySem.W.OpenLaw} {w : World} {K : PySem.W.Frag} {h : Heap} {mg : Str → Option Value} {fa f0 f1 f2 f3 f4 f5 f6 f7 f8 f9 f10 f11 f12 f13 f14 f15 f16 : Addr} (X : K.In h) (G : h.Ns mainGlobals mg) (hfa : mg "law" = some (.ref fa))
    {od0 an0 od1 an1 od2 an2 od3 an3 od4 an4 od5 an5 od6 an6 od7 an7 od8 an8 od9 an9 od10 an10 od11 an11 od12 an12 od13 an13 od14 an14 od15 an15 od16 an16 : Option Addr} {sl0 sl1 sl2 sl3 sl4 sl5 sl6 sl7 sl8 sl9 sl10 sl11 sl12 sl13 sl14 sl15 sl16 : Array (Option Value)} {oc0 kV0 dc0 pm0 cd0 ct0 oc1 kV1 dc1 pm1 cd1 ct1 oc2 kV2 dc2 pm2 cd2 ct2 oc3 kV3 dc3 pm3 cd3 ct3 oc4 kV4 dc4 pm4 cd4 ct4 oc5 kV5 dc5 pm5 cd5 ct5 oc6 kV6 dc6 pm6 cd6 ct6 oc7 kV7 dc7 pm7 cd7 ct7 oc8 kV8 dc8 pm8 cd8 ct8 oc9 kV9 dc9 pm9 cd9 ct9 oc10 kV10 dc10 pm10 cd10 ct10 oc11 kV11 dc11 pm11 cd11 ct11 oc12 kV12 dc12 pm12 cd12 ct12 oc13 kV13 dc13 pm13 cd13 ct13 oc14 kV14 dc14 pm14 cd14 ct14 oc15 kV15 dc15 pm15 cd15 ct15 oc16 kV16 dc16 pm16 cd16 ct16 : Value}
    (a0 : PySem.W.nsIn K mainGlobals "is_whole" = some (some (.ref f0))) (l0 : K.lookup f0 = some ⟨oc0, od0, .func (PySem.W.fnOf "is_whole" "is_whole" (defArgs sIsWhole) (defBody sIsWhole) (defScope sIsWhole) .none kV0 dc0 pm0 an0 cd0 ct0), sl0⟩) (c0 : PySem.W.codeIn K cd0 "is_whole" = true) (k0 : PySem.W.keepIn K (.ref f0) = true)
    (a1 : PySem.W.nsIn K mainGlobals "is_between" = some (some (.ref f1))) (l1 : K.lookup f1 = some ⟨oc1, od1, .func (PySem.W.fnOf "is_between" "is_between" (defArgs sIsBetween) (defBody sIsBetween) (defScope sIsBetween) .none kV1 dc1 pm1 an1 cd1 ct1), sl1⟩) (c1 : PySem.W.codeIn K cd1 "is_between" = true) (k1 : PySem.W.keepIn K (.ref f1) = true)
    (a2 : PySem.W.nsIn K mainGlobals "is_tree_node" = some (some (.ref f2))) (l2 : K.lookup f2 = some ⟨oc2, od2, .func (PySem.W.fnOf "is_tree_node" "is_tree_node" (defArgs sIsTreeNode) (defBody sIsTreeNode) (defScope sIsTreeNode) .none kV2 dc2 pm2 an2 cd2 ct2), sl2⟩) (c2 : PySem.W.codeIn K cd2 "is_tree_node" = true) (k2 : PySem.W.keepIn K (.ref f2) = true)
    (a3 : PySem.W.nsIn K mainGlobals "is_list_of" = some (some (.ref f3))) (l3 : K.lookup f3 = some ⟨oc3, od3, .func (PySem.W.fnOf "is_list_of" "is_list_of" (defArgs sIsListOf) (defBody sIsListOf) (defScope sIsListOf) .none kV3 dc3 pm3 an3 cd3 ct3), sl3⟩) (c3 : PySem.W.codeIn K cd3 "is_list_of" = true) (k3 : PySem.W.keepIn K (.ref f3) = true)
    (a4 : PySem.W.nsIn K mainGlobals "check_size" = some (some (.ref f4))) (l4 : K.lookup f4 = some ⟨oc4, od4, .func (PySem.W.fnOf "check_size" "check_size" (defArgs sCheckSize) (defBody sCheckSize) (defScope sCheckSize) .none kV4 dc4 pm4 an4 cd4 ct4), sl4⟩) (c4 : PySem.W.codeIn K cd4 "check_size" = true) (k4 : PySem.W.keepIn K (.ref f4) = true)
    {dT5 : Addr} {tc5 : Value} {td5 : Option Addr} {tits5 : Array Value} {tn5 : Nat} {tsl5 : Array (Option Value)}
    (a5 : PySem.W.nsIn K mainGlobals "check_nodes" = some (some (.ref f5))) (l5 : K.lookup f5 = some ⟨oc5, od5, .func (PySem.W.fnOf "check_nodes" "check_nodes" (defArgs sCheckNodes) (defBody sCheckNodes) (defScope sCheckNodes) (.ref dT5) kV5 dc5 pm5 an5 cd5 ct5), sl5⟩) (c5 : PySem.W.codeIn K cd5 "check_nodes" = true) (k5 : PySem.W.keepIn K (.ref f5) = true)
    (lT5 : K.lookup dT5 = some ⟨tc5, td5, .seq tits5 tn5, tsl5⟩) (vT5 : Vals [.int 1, .int 60] tits5.toList)
    (a6 : PySem.W.nsIn K mainGlobals "text_of" = some (some (.ref f6))) (l6 : K.lookup f6 = some ⟨oc6, od6, .func (PySem.W.fnOf "text_of" "text_of" (defArgs sTextOf) (defBody sTextOf) (defScope sTextOf) .none kV6 dc6 pm6 an6 cd6 ct6), sl6⟩) (c6 : PySem.W.codeIn K cd6 "text_of" = true) (k6 : PySem.W.keepIn K (.ref f6) = true)
    (a7 : PySem.W.nsIn K mainGlobals "number_of" = some (some (.ref f7))) (l7 : K.lookup f7 = some ⟨oc7, od7, .func (PySem.W.fnOf "number_of" "number_of" (defArgs sNumberOf) (defBody sNumberOf) (defScope sNumberOf) .none kV7 dc7 pm7 an7 cd7 ct7), sl7⟩) (c7 : PySem.W.codeIn K cd7 "number_of" = true) (k7 : PySem.W.keepIn K (.ref f7) = true)
    (a8 : PySem.W.nsIn K mainGlobals "show_nodes" = some (some (.ref f8))) (l8 : K.lookup f8 = some ⟨oc8, od8, .func (PySem.W.fnOf "show_nodes" "show_nodes" (defArgs sShowNodes) (defBody sShowNodes) (defScope sShowNodes) .none kV8 dc8 pm8 an8 cd8 ct8), sl8⟩) (c8 : PySem.W.codeIn K cd8 "show_nodes" = true) (k8 : PySem.W.keepIn K (.ref f8) = true)
    (a9 : PySem.W.nsIn K mainGlobals "read_nodes" = some (some (.ref f9))) (l9 : K.lookup f9 = some ⟨oc9, od9, .func (PySem.W.fnOf "read_nodes" "read_nodes" (defArgs sReadNodes) (defBody sReadNodes) (defScope sReadNodes) .none kV9 dc9 pm9 an9 cd9 ct9), sl9⟩) (c9 : PySem.W.codeIn K cd9 "read_nodes" = true) (k9 : PySem.W.keepIn K (.ref f9) = true)
    (a10 : PySem.W.nsIn K mainGlobals "_law_bag" = some (some (.ref f10))) (l10 : K.lookup f10 = some ⟨oc10, od10, .func (PySem.W.fnOf "_law_bag" "_law_bag" (defArgs sLawBag) (defBody sLawBag) (defScope sLawBag) .none kV10 dc10 pm10 an10 cd10 ct10), sl10⟩) (c10 : PySem.W.codeIn K cd10 "_law_bag" = true) (k10 : PySem.W.keepIn K (.ref f10) = true)
    (a11 : PySem.W.nsIn K mainGlobals "_law_pick" = some (some (.ref f11))) (l11 : K.lookup f11 = some ⟨oc11, od11, .func (PySem.W.fnOf "_law_pick" "_law_pick" (defArgs sLawPick) (defBody sLawPick) (defScope sLawPick) .none kV11 dc11 pm11 an11 cd11 ct11), sl11⟩) (c11 : PySem.W.codeIn K cd11 "_law_pick" = true) (k11 : PySem.W.keepIn K (.ref f11) = true)
    (a12 : PySem.W.nsIn K mainGlobals "_law_class" = some (some (.ref f12))) (l12 : K.lookup f12 = some ⟨oc12, od12, .func (PySem.W.fnOf "_law_class" "_law_class" (defArgs sLawClass) (defBody sLawClass) (defScope sLawClass) .none kV12 dc12 pm12 an12 cd12 ct12), sl12⟩) (c12 : PySem.W.codeIn K cd12 "_law_class" = true) (k12 : PySem.W.keepIn K (.ref f12) = true)
    (a13 : PySem.W.nsIn K mainGlobals "_law_word" = some (some (.ref f13))) (l13 : K.lookup f13 = some ⟨oc13, od13, .func (PySem.W.fnOf "_law_word" "_law_word" (defArgs sLawWord) (defBody sLawWord) (defScope sLawWord) .none kV13 dc13 pm13 an13 cd13 ct13), sl13⟩) (c13 : PySem.W.codeIn K cd13 "_law_word" = true) (k13 : PySem.W.keepIn K (.ref f13) = true)
    (a14 : PySem.W.nsIn K mainGlobals "_law_read" = some (some (.ref f14))) (l14 : K.lookup f14 = some ⟨oc14, od14, .func (PySem.W.fnOf "_law_read" "_law_read" (defArgs sLawRead) (defBody sLawRead) (defScope sLawRead) .none kV14 dc14 pm14 an14 cd14 ct14), sl14⟩) (c14 : PySem.W.codeIn K cd14 "_law_read" = true) (k14 : PySem.W.keepIn K (.ref f14) = true)
    (a15 : PySem.W.nsIn K mainGlobals "_law_bad_nodes" = some (some (.ref f15))) (l15 : K.lookup f15 = some ⟨oc15, od15, .func (PySem.W.fnOf "_law_bad_nodes" "_law_bad_nodes" (defArgs sLawBadNodes) (defBody sLawBadNodes) (defScope sLawBadNodes) .none kV15 dc15 pm15 an15 cd15 ct15), sl15⟩) (c15 : PySem.W.codeIn K cd15 "_law_bad_nodes" = true) (k15 : PySem.W.keepIn K (.ref f15) = true)
    (a16 : PySem.W.nsIn K mainGlobals "law" = some (some (.ref f16))) (l16 : K.lookup f16 = some ⟨oc16, od16, .func (PySem.W.fnOf "law" "law" (defArgs sLaw) (defBody sLaw) (defScope sLaw) .none kV16 dc16 pm16 an16 cd16 ct16), sl16⟩) (c16 : PySem.W.codeIn K cd16 "law" = true) (k16 : PySem.W.keepIn K (.ref f16) = true)
    (z_ValueError : PySem.W.nsIn K mainGlobals "ValueError" = some none)
    (z_bool : PySem.W.nsIn K mainGlobals "bool" = some none)
    (z_enumerate : PySem.W.nsIn K mainGlobals "enumerate" = some none)
    (z_int : PySem.W.nsIn K mainGlobals "int" = some none)
    (z_isinstance : PySem.W.nsIn K mainGlobals "isinstance" = some none)
    (z_len : PySem.W.nsIn K mainGlobals "len" = some none)
    (z_list : PySem.W.nsIn K mainGlobals "list" = some none)
    (z_max : PySem.W.nsIn K mainGlobals "max" = some none)
    (z_repr : PySem.W.nsIn K mainGlobals "repr" = some none)
    (z_str : PySem.W.nsIn K mainGlobals "str" = some none)
    (z_tuple : PySem.W.nsIn K mainGlobals "tuple" = some none)
    {t_MOST_DIGITS : Tok} (g_MOST_DIGITS : PySem.W.nsIn K mainGlobals "MOST_DIGITS" = some (some (.int 100 t_MOST_DIGITS)))
    {t_MOST_ENTRIES : Tok} (g_MOST_ENTRIES : PySem.W.nsIn K mainGlobals "MOST_ENTRIES" = some (some (.int 1000000000000000000000000000000 t_MOST_ENTRIES)))
    {t_MOST_SHOWN : Tok} (g_MOST_SHOWN : PySem.W.nsIn K mainGlobals "MOST_SHOWN" = some (some (.int 4000 t_MOST_SHOWN)))
    {CInvalidSpans CInvalidNodes CInvalidBounds CInvalidText COverBudget CInvalidSize CInvalidEntry CInvalidNode CInvalidSpan CInvalidNumber CInvalidHeight CInvalidBudget CInvalidOperation CNothing CInvalidCommand CLogError : Addr}
    (n_InvalidSpans : PySem.W.nsIn K mainGlobals "InvalidSpans" = some (some (.ref CInvalidSpans)))
    (i_InvalidSpans : PySem.W.isClsIn K CInvalidSpans = true)
    (t_InvalidSpans : PySem.W.typeIn K (.ref CInvalidSpans) = some (.type "type"))
    (n_InvalidNodes : PySem.W.nsIn K mainGlobals "InvalidNodes" = some (some (.ref CInvalidNodes)))
    (i_InvalidNodes : PySem.W.isClsIn K CInvalidNodes = true)
    (t_InvalidNodes : PySem.W.typeIn K (.ref CInvalidNodes) = some (.type "type"))
    (n_InvalidBounds : PySem.W.nsIn K mainGlobals "InvalidBounds" = some (some (.ref CInvalidBounds)))
    (i_InvalidBounds : PySem.W.isClsIn K CInvalidBounds = true)
    (t_InvalidBounds : PySem.W.typeIn K (.ref CInvalidBounds) = some (.type "type"))
    (n_InvalidText : PySem.W.nsIn K mainGlobals "InvalidText" = some (some (.ref CInvalidText)))
    (i_InvalidText : PySem.W.isClsIn K CInvalidText = true)
    (t_InvalidText : PySem.W.typeIn K (.ref CInvalidText) = some (.type "type"))
    (n_OverBudget : PySem.W.nsIn K mainGlobals "OverBudget" = some (some (.ref COverBudget)))
    (i_OverBudget : PySem.W.isClsIn K COverBudget = true)
    (t_OverBudget : PySem.W.typeIn K (.ref COverBudget) = some (.type "type"))
    (n_InvalidSize : PySem.W.nsIn K mainGlobals "InvalidSize" = some (some (.ref CInvalidSize)))
    (i_InvalidSize : PySem.W.isClsIn K CInvalidSize = true)
    (t_InvalidSize : PySem.W.typeIn K (.ref CInvalidSize) = some (.type "type"))
    (n_InvalidEntry : PySem.W.nsIn K mainGlobals "InvalidEntry" = some (some (.ref CInvalidEntry)))
    (i_InvalidEntry : PySem.W.isClsIn K CInvalidEntry = true)
    (t_InvalidEntry : PySem.W.typeIn K (.ref CInvalidEntry) = some (.type "type"))
    (n_InvalidNode : PySem.W.nsIn K mainGlobals "InvalidNode" = some (some (.ref CInvalidNode)))
    (i_InvalidNode : PySem.W.isClsIn K CInvalidNode = true)
    (t_InvalidNode : PySem.W.typeIn K (.ref CInvalidNode) = some (.type "type"))
    (n_InvalidSpan : PySem.W.nsIn K mainGlobals "InvalidSpan" = some (some (.ref CInvalidSpan)))
    (i_InvalidSpan : PySem.W.isClsIn K CInvalidSpan = true)
    (t_InvalidSpan : PySem.W.typeIn K (.ref CInvalidSpan) = some (.type "type"))
    (n_InvalidNumber : PySem.W.nsIn K mainGlobals "InvalidNumber" = some (some (.ref CInvalidNumber)))
    (i_InvalidNumber : PySem.W.isClsIn K CInvalidNumber = true)
    (t_InvalidNumber : PySem.W.typeIn K (.ref CInvalidNumber) = some (.type "type"))
    (n_InvalidHeight : PySem.W.nsIn K mainGlobals "InvalidHeight" = some (some (.ref CInvalidHeight)))
    (i_InvalidHeight : PySem.W.isClsIn K CInvalidHeight = true)
    (t_InvalidHeight : PySem.W.typeIn K (.ref CInvalidHeight) = some (.type "type"))
    (n_InvalidBudget : PySem.W.nsIn K mainGlobals "InvalidBudget" = some (some (.ref CInvalidBudget)))
    (i_InvalidBudget : PySem.W.isClsIn K CInvalidBudget = true)
    (t_InvalidBudget : PySem.W.typeIn K (.ref CInvalidBudget) = some (.type "type"))
    (n_InvalidOperation : PySem.W.nsIn K mainGlobals "InvalidOperation" = some (some (.ref CInvalidOperation)))
    (i_InvalidOperation : PySem.W.isClsIn K CInvalidOperation = true)
    (t_InvalidOperation : PySem.W.typeIn K (.ref CInvalidOperation) = some (.type "type"))
    (n_Nothing : PySem.W.nsIn K mainGlobals "Nothing" = some (some (.ref CNothing)))
    (i_Nothing : PySem.W.isClsIn K CNothing = true)
    (t_Nothing : PySem.W.typeIn K (.ref CNothing) = some (.type "type"))
    (n_InvalidCommand : PySem.W.nsIn K mainGlobals "InvalidCommand" = some (some (.ref CInvalidCommand)))
    (i_InvalidCommand : PySem.W.isClsIn K CInvalidCommand = true)
    (t_InvalidCommand : PySem.W.typeIn K (.ref CInvalidCommand) = some (.type "type"))
    (n_LogError : PySem.W.nsIn K mainGlobals "LogError" = some (some (.ref CLogError)))
    (i_LogError : PySem.W.isClsIn K CLogError = true)
    (t_LogError : PySem.W.typeIn K (.ref CLogError) = some (.type "type"))
    (b_LogError : PySem.W.subIn K (.ref CLogError) (.type "BaseException") = some true)
    (d_LogError : PySem.W.hasDictIn K CLogError = true)
    (k_InvalidNodes : PySem.W.keepIn K (.ref CInvalidNodes) = true)
    (b_InvalidNodes : PySem.W.subIn K (.ref CInvalidNodes) (.type "BaseException") = some true)
    (g_InvalidNodes : PySem.W.findIn K (.ref CInvalidNodes) "__getattribute__" = some (some (.builtin "BaseException.__getattribute__")))
    (a_InvalidNodes : PySem.W.findIn K (.ref CInvalidNodes) "__getattr__" = some none)
    (d_InvalidNodes : PySem.W.hasDictIn K CInvalidNodes = true)
    (c_InvalidNodes : PySem.W.findIn K (.ref CInvalidNodes) "__class__" = some (some (.builtin "object.__class__")))
    (m_InvalidNodes : PySem.W.mroIn K CInvalidNodes (.type "object") = some true)
    (v_InvalidNodes : PySem.W.subIn K (.ref CInvalidNodes) (.type "ValueError") = some true)
    (l_InvalidNodes : PySem.W.subIn K (.ref CInvalidNodes) (.ref CLogError) = some true)
    (s_InvalidNodes_InvalidSpans : PySem.W.subIn K (.ref CInvalidNodes) (.ref CInvalidSpans) = some false)
    (s_InvalidNodes_InvalidNodes : PySem.W.subIn K (.ref CInvalidNodes) (.ref CInvalidNodes) = some true)
    (s_InvalidNodes_InvalidBounds : PySem.W.subIn K (.ref CInvalidNodes) (.ref CInvalidBounds) = some false)
    (s_InvalidNodes_InvalidText : PySem.W.subIn K (.ref CInvalidNodes) (.ref CInvalidText) = some false)
    (s_InvalidNodes_OverBudget : PySem.W.subIn K (.ref CInvalidNodes) (.ref COverBudget) = some false)
    (s_InvalidNodes_InvalidSize : PySem.W.subIn K (.ref CInvalidNodes) (.ref CInvalidSize) = some false)
    (s_InvalidNodes_InvalidEntry : PySem.W.subIn K (.ref CInvalidNodes) (.ref CInvalidEntry) = some false)
    (s_InvalidNodes_InvalidNode : PySem.W.subIn K (.ref CInvalidNodes) (.ref CInvalidNode) = some false)
    (s_InvalidNodes_InvalidSpan : PySem.W.subIn K (.ref CInvalidNodes) (.ref CInvalidSpan) = some false)
    (s_InvalidNodes_InvalidNumber : PySem.W.subIn K (.ref CInvalidNodes) (.ref CInvalidNumber) = some false)
    (s_InvalidNodes_InvalidHeight : PySem.W.subIn K (.ref CInvalidNodes) (.ref CInvalidHeight) = some false)
    (s_InvalidNodes_InvalidBudget : PySem.W.subIn K (.ref CInvalidNodes) (.ref CInvalidBudget) = some false)
    (s_InvalidNodes_InvalidOperation : PySem.W.subIn K (.ref CInvalidNodes) (.ref CInvalidOperation) = some false)
    (s_InvalidNodes_Nothing : PySem.W.subIn K (.ref CInvalidNodes) (.ref CNothing) = some false)
    (s_InvalidNodes_InvalidCommand : PySem.W.subIn K (.ref CInvalidNodes) (.ref CInvalidCommand) = some false)
    (k_InvalidText : PySem.W.keepIn K (.ref CInvalidText) = true)
    (b_InvalidText : PySem.W.subIn K (.ref CInvalidText) (.type "BaseException") = some true)
    (g_InvalidText : PySem.W.findIn K (.ref CInvalidText) "__getattribute__" = some (some (.builtin "BaseException.__getattribute__")))
    (a_InvalidText : PySem.W.findIn K (.ref CInvalidText) "__getattr__" = some none)
    (d_InvalidText : PySem.W.hasDictIn K CInvalidText = true)
    (c_InvalidText : PySem.W.findIn K (.ref CInvalidText) "__class__" = some (some (.builtin "object.__class__")))
    (m_InvalidText : PySem.W.mroIn K CInvalidText (.type "object") = some true)
    (v_InvalidText : PySem.W.subIn K (.ref CInvalidText) (.type "ValueError") = some true)
    (l_InvalidText : PySem.W.subIn K (.ref CInvalidText) (.ref CLogError) = some true)
    (s_InvalidText_InvalidSpans : PySem.W.subIn K (.ref CInvalidText) (.ref CInvalidSpans) = some false)
    (s_InvalidText_InvalidNodes : PySem.W.subIn K (.ref CInvalidText) (.ref CInvalidNodes) = some false)
    (s_InvalidText_InvalidBounds : PySem.W.subIn K (.ref CInvalidText) (.ref CInvalidBounds) = some false)
    (s_InvalidText_InvalidText : PySem.W.subIn K (.ref CInvalidText) (.ref CInvalidText) = some true)
    (s_InvalidText_OverBudget : PySem.W.subIn K (.ref CInvalidText) (.ref COverBudget) = some false)
    (s_InvalidText_InvalidSize : PySem.W.subIn K (.ref CInvalidText) (.ref CInvalidSize) = some false)
    (s_InvalidText_InvalidEntry : PySem.W.subIn K (.ref CInvalidText) (.ref CInvalidEntry) = some false)
    (s_InvalidText_InvalidNode : PySem.W.subIn K (.ref CInvalidText) (.ref CInvalidNode) = some false)
    (s_InvalidText_InvalidSpan : PySem.W.subIn K (.ref CInvalidText) (.ref CInvalidSpan) = some false)
    (s_InvalidText_InvalidNumber : PySem.W.subIn K (.ref CInvalidText) (.ref CInvalidNumber) = some false)
    (s_InvalidText_InvalidHeight : PySem.W.subIn K (.ref CInvalidText) (.ref CInvalidHeight) = some false)
    (s_InvalidText_InvalidBudget : PySem.W.subIn K (.ref CInvalidText) (.ref CInvalidBudget) = some false)
    (s_InvalidText_InvalidOperation : PySem.W.subIn K (.ref CInvalidText) (.ref CInvalidOperation) = some false)
    (s_InvalidText_Nothing : PySem.W.subIn K (.ref CInvalidText) (.ref CNothing) = some false)
    (s_InvalidText_InvalidCommand : PySem.W.subIn K (.ref CInvalidText) (.ref CInvalidCommand) = some false)
    (k_InvalidSize : PySem.W.keepIn K (.ref CInvalidSize) = true)
    (b_InvalidSize : PySem.W.subIn K (.ref CInvalidSize) (.type "BaseException") = some true)
    (g_InvalidSize : PySem.W.findIn K (.ref CInvalidSize) "__getattribute__" = some (some (.builtin "BaseException.__getattribute__")))
    (a_InvalidSize : PySem.W.findIn K (.ref CInvalidSize) "__getattr__" = some none)
    (d_InvalidSize : PySem.W.hasDictIn K CInvalidSize = true)
    (c_InvalidSize : PySem.W.findIn K (.ref CInvalidSize) "__class__" = some (some (.builtin "object.__class__")))
    (m_InvalidSize : PySem.W.mroIn K CInvalidSize (.type "object") = some true)
    (v_InvalidSize : PySem.W.subIn K (.ref CInvalidSize) (.type "ValueError") = some true)
    (l_InvalidSize : PySem.W.subIn K (.ref CInvalidSize) (.ref CLogError) = some true)
    (q_InvalidSize : PySem.W.excIn K CInvalidSize [.type "ValueError", .type "Exception", .type "BaseException", .type "object"] "ValueError.__new__" = true)
    (s_InvalidSize_InvalidSpans : PySem.W.subIn K (.ref CInvalidSize) (.ref CInvalidSpans) = some false)
    (s_InvalidSize_InvalidNodes : PySem.W.subIn K (.ref CInvalidSize) (.ref CInvalidNodes) = some false)
    (s_InvalidSize_InvalidBounds : PySem.W.subIn K (.ref CInvalidSize) (.ref CInvalidBounds) = some false)
    (s_InvalidSize_InvalidText : PySem.W.subIn K (.ref CInvalidSize) (.ref CInvalidText) = some false)
    (s_InvalidSize_OverBudget : PySem.W.subIn K (.ref CInvalidSize) (.ref COverBudget) = some false)
    (s_InvalidSize_InvalidSize : PySem.W.subIn K (.ref CInvalidSize) (.ref CInvalidSize) = some true)
    (s_InvalidSize_InvalidEntry : PySem.W.subIn K (.ref CInvalidSize) (.ref CInvalidEntry) = some false)
    (s_InvalidSize_InvalidNode : PySem.W.subIn K (.ref CInvalidSize) (.ref CInvalidNode) = some false)
    (s_InvalidSize_InvalidSpan : PySem.W.subIn K (.ref CInvalidSize) (.ref CInvalidSpan) = some false)
    (s_InvalidSize_InvalidNumber : PySem.W.subIn K (.ref CInvalidSize) (.ref CInvalidNumber) = some false)
    (s_InvalidSize_InvalidHeight : PySem.W.subIn K (.ref CInvalidSize) (.ref CInvalidHeight) = some false)
    (s_InvalidSize_InvalidBudget : PySem.W.subIn K (.ref CInvalidSize) (.ref CInvalidBudget) = some false)
    (s_InvalidSize_InvalidOperation : PySem.W.subIn K (.ref CInvalidSize) (.ref CInvalidOperation) = some false)
    (s_InvalidSize_Nothing : PySem.W.subIn K (.ref CInvalidSize) (.ref CNothing) = some false)
    (s_InvalidSize_InvalidCommand : PySem.W.subIn K (.ref CInvalidSize) (.ref CInvalidCommand) = some false)
    (x_n : PySem.W.specialIn K (.builtin "object.__class__") "__get__" = some (some (.builtin "getset_descriptor.__get__")))
    (x_t : PySem.W.takesIn K (.builtin "object.__class__") = some true)
    (x_o : PySem.W.nsIn K cStatics "thirdparty.any" = some none)
    (x_s : PySem.W.nsIn K mainGlobals "super" = some none)
    (x_p : (l.prog.main.scope.names.lookup ("super" : Str)).isSome = false)
    (o_InvalidNodes : ∃ nm q N bs bm sn sub ab col dd k0 k1 k2 k3 k5, K.lookup CInvalidNodes = some (excClassObj nm q CInvalidNodes N bs bm true sn sub ab col dd k0 k1 k2 k3 k5 "ValueError.__new__") ∧ PySem.HandSPX.refsVE bm = true)
    (e_InvalidNodes : PySem.W.findIn K (.ref CInvalidNodes) "__setattr__" = some (some (.builtin "object.__setattr__")))
    (f_InvalidNodes : PySem.W.findIn K (.ref CInvalidNodes) "item" = some none)
    (u_InvalidNodes : PySem.W.ks_superIn K CInvalidNodes CInvalidNodes "__init__" = some (some (.builtin "ValueError.__init__")))
    (w_InvalidNodes : PySem.W.mroIn K CInvalidNodes (.ref CInvalidNodes) = some true)
    (j_InvalidNodes : InitK l.prog K CInvalidNodes sIInvalidNodes "InvalidNodes.__init__")
    (o_InvalidText : ∃ nm q N bs bm sn sub ab col dd k0 k1 k2 k3 k5, K.lookup CInvalidText = some (excClassObj nm q CInvalidText N bs bm true sn sub ab col dd k0 k1 k2 k3 k5 "ValueError.__new__") ∧ PySem.HandSPX.refsVE bm = true)
    (e_InvalidText : PySem.W.findIn K (.ref CInvalidText) "__setattr__" = some (some (.builtin "object.__setattr__")))
    (f_InvalidText : PySem.W.findIn K (.ref CInvalidText) "part" = some none)
    (u_InvalidText : PySem.W.ks_superIn K CInvalidText CInvalidText "__init__" = some (some (.builtin "ValueError.__init__")))
    (w_InvalidText : PySem.W.mroIn K CInvalidText (.ref CInvalidText) = some true)
    (j_InvalidText : InitK l.prog K CInvalidText sIInvalidText "InvalidText.__init__")
    : ∃ fd : FuncData, (∀ (s : Shared) (v : Value), BindsTo s fd ⟨[v], []⟩ [("script", v)]) ∧ ∀ base : Heap, K.In base → base.Ns mainGlobals mg → GOk l.prog w K mg base 7 fa fd ["script"] (spLaw K) := by
  have e := hfa.symm.trans (PySem.W.mg_of X G a16)
  cases e
  have FIsWhole := fun_mk (st := sIsWhole) l0 c0 k0
  have FIsBetween := fun_mk (st := sIsBetween) l1 c1 k1
  have FIsTreeNode := fun_mk (st := sIsTreeNode) l2 c2 k2
  have FIsListOf := fun_mk (st := sIsListOf) l3 c3 k3
  have FCheckSize := fun_mk (st := sCheckSize) l4 c4 k4
  have FCheckNodes := funT_mk (st := sCheckNodes) l5 c5 k5 lT5 vT5
  have FTextOf := fun_mk (st := sTextOf) l6 c6 k6
  have FNumberOf := fun_mk (st := sNumberOf) l7 c7 k7
  have FShowNodes := fun_mk (st := sShowNodes) l8 c8 k8
  have FReadNodes := fun_mk (st := sReadNodes) l9 c9 k9
  have FLawBag := fun_mk (st := sLawBag) l10 c10 k10
  have FLawPick := fun_mk (st := sLawPick) l11 c11 k11
  have FLawClass := fun_mk (st := sLawClass) l12 c12 k12
  have FLawWord := fun_mk (st := sLawWord) l13 c13 k13
  have FLawRead := fun_mk (st := sLawRead) l14 c14 k14
  have FLawBadNodes := fun_mk (st := sLawBadNodes) l15 c15 k15
  have FLaw := fun_mk (st := sLaw) l16 c16 k16
  have AIsWhole : At K mg "is_whole" f0 (PySem.W.fnOf "is_whole" "is_whole" (defArgs sIsWhole) (defBody sIsWhole) (defScope sIsWhole) .none kV0 dc0 pm0 an0 cd0 ct0) ["value"] := ⟨PySem.W.mg_of X G a0, k0, FIsWhole.binds (ps := ["value"]) fun _ _ _ _ _ _ us hl => match us, hl with | [_], _ => rfl⟩
  have AIsBetween : At K mg "is_between" f1 (PySem.W.fnOf "is_between" "is_between" (defArgs sIsBetween) (defBody sIsBetween) (defScope sIsBetween) .none kV1 dc1 pm1 an1 cd1 ct1) ["value", "low", "high"] := ⟨PySem.W.mg_of X G a1, k1, FIsBetween.binds (ps := ["value", "low", "high"]) fun _ _ _ _ _ _ us hl => match us, hl with | [_, _, _], _ => rfl⟩
  have AIsTreeNode : At K mg "is_tree_node" f2 (PySem.W.fnOf "is_tree_node" "is_tree_node" (defArgs sIsTreeNode) (defBody sIsTreeNode) (defScope sIsTreeNode) .none kV2 dc2 pm2 an2 cd2 ct2) ["size", "value"] := ⟨PySem.W.mg_of X G a2, k2, FIsTreeNode.binds (ps := ["size", "value"]) fun _ _ _ _ _ _ us hl => match us, hl with | [_, _], _ => rfl⟩
  have AIsListOf : At K mg "is_list_of" f3 (PySem.W.fnOf "is_list_of" "is_list_of" (defArgs sIsListOf) (defBody sIsListOf) (defScope sIsListOf) .none kV3 dc3 pm3 an3 cd3 ct3) ["value", "least", "most"] := ⟨PySem.W.mg_of X G a3, k3, FIsListOf.binds (ps := ["value", "least", "most"]) fun _ _ _ _ _ _ us hl => match us, hl with | [_, _, _], _ => rfl⟩
  have ACheckSize : At K mg "check_size" f4 (PySem.W.fnOf "check_size" "check_size" (defArgs sCheckSize) (defBody sCheckSize) (defScope sCheckSize) .none kV4 dc4 pm4 an4 cd4 ct4) ["size"] := ⟨PySem.W.mg_of X G a4, k4, FCheckSize.binds (ps := ["size"]) fun _ _ _ _ _ _ us hl => match us, hl with | [_], _ => rfl⟩
  have ACheckNodes : AtT K mg "check_nodes" f5 _ ["size", "nodes", "least", "most"] tits5.toList [.int 1, .int 60] := ⟨PySem.W.mg_of X G a5, k5, FCheckNodes.binds (n := 2) (m := 2) rfl (fun _ _ _ _ _ _ _ us its hl hi => match us, hl, its, hi with | [_, _], _, [_, _], _ => ⟨_, rfl, rfl⟩) , vT5⟩
  have ATextOf : At K mg "text_of" f6 (PySem.W.fnOf "text_of" "text_of" (defArgs sTextOf) (defBody sTextOf) (defScope sTextOf) .none kV6 dc6 pm6 an6 cd6 ct6) ["nodes"] := ⟨PySem.W.mg_of X G a6, k6, FTextOf.binds (ps := ["nodes"]) fun _ _ _ _ _ _ us hl => match us, hl with | [_], _ => rfl⟩
  have ANumberOf : At K mg "number_of" f7 (PySem.W.fnOf "number_of" "number_of" (defArgs sNumberOf) (defBody sNumberOf) (defScope sNumberOf) .none kV7 dc7 pm7 an7 cd7 ct7) ["word"] := ⟨PySem.W.mg_of X G a7, k7, FNumberOf.binds (ps := ["word"]) fun _ _ _ _ _ _ us hl => match us, hl with | [_], _ => rfl⟩
  have AShowNodes : At K mg "show_nodes" f8 (PySem.W.fnOf "show_nodes" "show_nodes" (defArgs sShowNodes) (defBody sShowNodes) (defScope sShowNodes) .none kV8 dc8 pm8 an8 cd8 ct8) ["size", "nodes"] := ⟨PySem.W.mg_of X G a8, k8, FShowNodes.binds (ps := ["size", "nodes"]) fun _ _ _ _ _ _ us hl => match us, hl with | [_, _], _ => rfl⟩
  have AReadNodes : At K mg "read_nodes" f9 (PySem.W.fnOf "read_nodes" "read_nodes" (defArgs sReadNodes) (defBody sReadNodes) (defScope sReadNodes) .none kV9 dc9 pm9 an9 cd9 ct9) ["size", "text"] := ⟨PySem.W.mg_of X G a9, k9, FReadNodes.binds (ps := ["size", "text"]) fun _ _ _ _ _ _ us hl => match us, hl with | [_, _], _ => rfl⟩
  have ALawBag : At K mg "_law_bag" f10 (PySem.W.fnOf "_law_bag" "_law_bag" (defArgs sLawBag) (defBody sLawBag) (defScope sLawBag) .none kV10 dc10 pm10 an10 cd10 ct10) ["cell"] := ⟨PySem.W.mg_of X G a10, k10, FLawBag.binds (ps := ["cell"]) fun _ _ _ _ _ _ us hl => match us, hl with | [_], _ => rfl⟩
  have ALawPick : At K mg "_law_pick" f11 (PySem.W.fnOf "_law_pick" "_law_pick" (defArgs sLawPick) (defBody sLawPick) (defScope sLawPick) .none kV11 dc11 pm11 an11 cd11 ct11) ["bag", "many"] := ⟨PySem.W.mg_of X G a11, k11, FLawPick.binds (ps := ["bag", "many"]) fun _ _ _ _ _ _ us hl => match us, hl with | [_, _], _ => rfl⟩
  have ALawClass : At K mg "_law_class" f12 (PySem.W.fnOf "_law_class" "_law_class" (defArgs sLawClass) (defBody sLawClass) (defScope sLawClass) .none kV12 dc12 pm12 an12 cd12 ct12) ["caught"] := ⟨PySem.W.mg_of X G a12, k12, FLawClass.binds (ps := ["caught"]) fun _ _ _ _ _ _ us hl => match us, hl with | [_], _ => rfl⟩
  have ALawWord : At K mg "_law_word" f13 (PySem.W.fnOf "_law_word" "_law_word" (defArgs sLawWord) (defBody sLawWord) (defScope sLawWord) .none kV13 dc13 pm13 an13 cd13 ct13) ["many", "some"] := ⟨PySem.W.mg_of X G a13, k13, FLawWord.binds (ps := ["many", "some"]) fun _ _ _ _ _ _ us hl => match us, hl with | [_, _], _ => rfl⟩
  have ALawRead : At K mg "_law_read" f14 (PySem.W.fnOf "_law_read" "_law_read" (defArgs sLawRead) (defBody sLawRead) (defScope sLawRead) .none kV14 dc14 pm14 an14 cd14 ct14) ["many", "text"] := ⟨PySem.W.mg_of X G a14, k14, FLawRead.binds (ps := ["many", "text"]) fun _ _ _ _ _ _ us hl => match us, hl with | [_, _], _ => rfl⟩
  have ALawBadNodes : At K mg "_law_bad_nodes" f15 (PySem.W.fnOf "_law_bad_nodes" "_law_bad_nodes" (defArgs sLawBadNodes) (defBody sLawBadNodes) (defScope sLawBadNodes) .none kV15 dc15 pm15 an15 cd15 ct15) ["many"] := ⟨PySem.W.mg_of X G a15, k15, FLawBadNodes.binds (ps := ["many"]) fun _ _ _ _ _ _ us hl => match us, hl with | [_], _ => rfl⟩
  have z_ValueError := PySem.W.mg_none_of X G z_ValueError
  have z_bool := PySem.W.mg_none_of X G z_bool
  have z_enumerate := PySem.W.mg_none_of X G z_enumerate
  have z_int := PySem.W.mg_none_of X G z_int
  have z_isinstance := PySem.W.mg_none_of X G z_isinstance
  have z_len := PySem.W.mg_none_of X G z_len
  have z_list := PySem.W.mg_none_of X G z_list
  have z_max := PySem.W.mg_none_of X G z_max
  have z_repr := PySem.W.mg_none_of X G z_repr
  have z_str := PySem.W.mg_none_of X G z_str
  have z_tuple := PySem.W.mg_none_of X G z_tuple
  have g_MOST_DIGITS := PySem.W.mg_of X G g_MOST_DIGITS
  have g_MOST_ENTRIES := PySem.W.mg_of X G g_MOST_ENTRIES
  have g_MOST_SHOWN := PySem.W.mg_of X G g_MOST_SHOWN
  refine ⟨PySem.W.fnOf "law" "law" (defArgs sLaw) (defBody sLaw) (defScope sLaw) .none kV16 dc16 pm16 an16 cd16 ct16, fun s v => .of_eq rfl, fun base _ _ => ?_⟩
  have GInvalidSpans : GF mg "InvalidSpans" CInvalidSpans := ⟨PySem.W.mg_of X G n_InvalidSpans⟩
  have GInvalidNodes : GF mg "InvalidNodes" CInvalidNodes := ⟨PySem.W.mg_of X G n_InvalidNodes⟩
  have GInvalidBounds : GF mg "InvalidBounds" CInvalidBounds := ⟨PySem.W.mg_of X G n_InvalidBounds⟩
  have GInvalidText : GF mg "InvalidText" CInvalidText := ⟨PySem.W.mg_of X G n_InvalidText⟩
  have GOverBudget : GF mg "OverBudget" COverBudget := ⟨PySem.W.mg_of X G n_OverBudget⟩
  have GInvalidSize : GF mg "InvalidSize" CInvalidSize := ⟨PySem.W.mg_of X G n_InvalidSize⟩
  have GInvalidEntry : GF mg "InvalidEntry" CInvalidEntry := ⟨PySem.W.mg_of X G n_InvalidEntry⟩
  have GInvalidNode : GF mg "InvalidNode" CInvalidNode := ⟨PySem.W.mg_of X G n_InvalidNode⟩
  have GInvalidSpan : GF mg "InvalidSpan" CInvalidSpan := ⟨PySem.W.mg_of X G n_InvalidSpan⟩
  have GInvalidNumber : GF mg "InvalidNumber" CInvalidNumber := ⟨PySem.W.mg_of X G n_InvalidNumber⟩
  have GInvalidHeight : GF mg "InvalidHeight" CInvalidHeight := ⟨PySem.W.mg_of X G n_InvalidHeight⟩
  have GInvalidBudget : GF mg "InvalidBudget" CInvalidBudget := ⟨PySem.W.mg_of X G n_InvalidBudget⟩
  have GInvalidOperation : GF mg "InvalidOperation" CInvalidOperation := ⟨PySem.W.mg_of X G n_InvalidOperation⟩
  have GNothing : GF mg "Nothing" CNothing := ⟨PySem.W.mg_of X G n_Nothing⟩
  have GInvalidCommand : GF mg "InvalidCommand" CInvalidCommand := ⟨PySem.W.mg_of X G n_InvalidCommand⟩
  have GLogError : GF mg "LogError" CLogError := ⟨PySem.W.mg_of X G n_LogError⟩
  have EInvalidNodes : ExcC K CInvalidNodes := ⟨g_InvalidNodes, a_InvalidNodes, b_InvalidNodes, d_InvalidNodes, c_InvalidNodes, x_n, x_t, m_InvalidNodes⟩
  have KInvalidNodes : CK K [CInvalidSpans, CInvalidNodes, CInvalidBounds, CInvalidText, COverBudget, CInvalidSize, CInvalidEntry, CInvalidNode, CInvalidSpan, CInvalidNumber, CInvalidHeight, CInvalidBudget, CInvalidOperation, CNothing, CInvalidCommand] CLogError CInvalidNodes "InvalidNodes" := ⟨EInvalidNodes, ⟨[false, true, false, false, false, false, false, false, false, false, false, false, false, false, false], ⟨kit_of i_InvalidSpans t_InvalidSpans s_InvalidNodes_InvalidSpans s_InvalidNodes_InvalidNodes, kit_of i_InvalidNodes t_InvalidNodes s_InvalidNodes_InvalidNodes s_InvalidNodes_InvalidNodes, kit_of i_InvalidBounds t_InvalidBounds s_InvalidNodes_InvalidBounds s_InvalidNodes_InvalidNodes, kit_of i_InvalidText t_InvalidText s_InvalidNodes_InvalidText s_InvalidNodes_InvalidNodes, kit_of i_OverBudget t_OverBudget s_InvalidNodes_OverBudget s_InvalidNodes_InvalidNodes, kit_of i_InvalidSize t_InvalidSize s_InvalidNodes_InvalidSize s_InvalidNodes_InvalidNodes, kit_of i_InvalidEntry t_InvalidEntry s_InvalidNodes_InvalidEntry s_InvalidNodes_InvalidNodes, kit_of i_InvalidNode t_InvalidNode s_InvalidNodes_InvalidNode s_InvalidNodes_InvalidNodes, kit_of i_InvalidSpan t_InvalidSpan s_InvalidNodes_InvalidSpan s_InvalidNodes_InvalidNodes, kit_of i_InvalidNumber t_InvalidNumber s_InvalidNodes_InvalidNumber s_InvalidNodes_InvalidNodes, kit_of i_InvalidHeight t_InvalidHeight s_InvalidNodes_InvalidHeight s_InvalidNodes_InvalidNodes, kit_of i_InvalidBudget t_InvalidBudget s_InvalidNodes_InvalidBudget s_InvalidNodes_InvalidNodes, kit_of i_InvalidOperation t_InvalidOperation s_InvalidNodes_InvalidOperation s_InvalidNodes_InvalidNodes, kit_of i_Nothing t_Nothing s_InvalidNodes_Nothing s_InvalidNodes_InvalidNodes, kit_of i_InvalidCommand t_InvalidCommand s_InvalidNodes_InvalidCommand s_InvalidNodes_InvalidNodes, trivial⟩, by decide +kernel⟩, kit_ty0 (by decide) v_InvalidNodes, by decide +kernel, PySem.W.exm_ref b_LogError d_LogError t_LogError l_InvalidNodes⟩
  have EInvalidText : ExcC K CInvalidText := ⟨g_InvalidText, a_InvalidText, b_InvalidText, d_InvalidText, c_InvalidText, x_n, x_t, m_InvalidText⟩
  have KInvalidText : CK K [CInvalidSpans, CInvalidNodes, CInvalidBounds, CInvalidText, COverBudget, CInvalidSize, CInvalidEntry, CInvalidNode, CInvalidSpan, CInvalidNumber, CInvalidHeight, CInvalidBudget, CInvalidOperation, CNothing, CInvalidCommand] CLogError CInvalidText "InvalidText" := ⟨EInvalidText, ⟨[false, false, false, true, false, false, false, false, false, false, false, false, false, false, false], ⟨kit_of i_InvalidSpans t_InvalidSpans s_InvalidText_InvalidSpans s_InvalidText_InvalidText, kit_of i_InvalidNodes t_InvalidNodes s_InvalidText_InvalidNodes s_InvalidText_InvalidText, kit_of i_InvalidBounds t_InvalidBounds s_InvalidText_InvalidBounds s_InvalidText_InvalidText, kit_of i_InvalidText t_InvalidText s_InvalidText_InvalidText s_InvalidText_InvalidText, kit_of i_OverBudget t_OverBudget s_InvalidText_OverBudget s_InvalidText_InvalidText, kit_of i_InvalidSize t_InvalidSize s_InvalidText_InvalidSize s_InvalidText_InvalidText, kit_of i_InvalidEntry t_InvalidEntry s_InvalidText_InvalidEntry s_InvalidText_InvalidText, kit_of i_InvalidNode t_InvalidNode s_InvalidText_InvalidNode s_InvalidText_InvalidText, kit_of i_InvalidSpan t_InvalidSpan s_InvalidText_InvalidSpan s_InvalidText_InvalidText, kit_of i_InvalidNumber t_InvalidNumber s_InvalidText_InvalidNumber s_InvalidText_InvalidText, kit_of i_InvalidHeight t_InvalidHeight s_InvalidText_InvalidHeight s_InvalidText_InvalidText, kit_of i_InvalidBudget t_InvalidBudget s_InvalidText_InvalidBudget s_InvalidText_InvalidText, kit_of i_InvalidOperation t_InvalidOperation s_InvalidText_InvalidOperation s_InvalidText_InvalidText, kit_of i_Nothing t_Nothing s_InvalidText_Nothing s_InvalidText_InvalidText, kit_of i_InvalidCommand t_InvalidCommand s_InvalidText_InvalidCommand s_InvalidText_InvalidText, trivial⟩, by decide +kernel⟩, kit_ty0 (by decide) v_InvalidText, by decide +kernel, PySem.W.exm_ref b_LogError d_LogError t_LogError l_InvalidText⟩
  have XInvalidSize : XF K mg "InvalidSize" CInvalidSize := ⟨PySem.W.mg_of X G n_InvalidSize, k_InvalidSize, q_InvalidSize, b_InvalidSize, t_InvalidSize⟩
  have EInvalidSize : ExcC K CInvalidSize := ⟨g_InvalidSize, a_InvalidSize, b_InvalidSize, d_InvalidSize, c_InvalidSize, x_n, x_t, m_InvalidSize⟩
  have KInvalidSize : CK K [CInvalidSpans, CInvalidNodes, CInvalidBounds, CInvalidText, COverBudget, CInvalidSize, CInvalidEntry, CInvalidNode, CInvalidSpan, CInvalidNumber, CInvalidHeight, CInvalidBudget, CInvalidOperation, CNothing, CInvalidCommand] CLogError CInvalidSize "InvalidSize" := ⟨EInvalidSize, ⟨[false, false, false, false, false, true, false, false, false, false, false, false, false, false, false], ⟨kit_of i_InvalidSpans t_InvalidSpans s_InvalidSize_InvalidSpans s_InvalidSize_InvalidSize, kit_of i_InvalidNodes t_InvalidNodes s_InvalidSize_InvalidNodes s_InvalidSize_InvalidSize, kit_of i_InvalidBounds t_InvalidBounds s_InvalidSize_InvalidBounds s_InvalidSize_InvalidSize, kit_of i_InvalidText t_InvalidText s_InvalidSize_InvalidText s_InvalidSize_InvalidSize, kit_of i_OverBudget t_OverBudget s_InvalidSize_OverBudget s_InvalidSize_InvalidSize, kit_of i_InvalidSize t_InvalidSize s_InvalidSize_InvalidSize s_InvalidSize_InvalidSize, kit_of i_InvalidEntry t_InvalidEntry s_InvalidSize_InvalidEntry s_InvalidSize_InvalidSize, kit_of i_InvalidNode t_InvalidNode s_InvalidSize_InvalidNode s_InvalidSize_InvalidSize, kit_of i_InvalidSpan t_InvalidSpan s_InvalidSize_InvalidSpan s_InvalidSize_InvalidSize, kit_of i_InvalidNumber t_InvalidNumber s_InvalidSize_InvalidNumber s_InvalidSize_InvalidSize, kit_of i_InvalidHeight t_InvalidHeight s_InvalidSize_InvalidHeight s_InvalidSize_InvalidSize, kit_of i_InvalidBudget t_InvalidBudget s_InvalidSize_InvalidBudget s_InvalidSize_InvalidSize, kit_of i_InvalidOperation t_InvalidOperation s_InvalidSize_InvalidOperation s_InvalidSize_InvalidSize, kit_of i_Nothing t_Nothing s_InvalidSize_Nothing s_InvalidSize_InvalidSize, kit_of i_InvalidCommand t_InvalidCommand s_InvalidSize_InvalidCommand s_InvalidSize_InvalidSize, trivial⟩, by decide +kernel⟩, kit_ty0 (by decide) v_InvalidSize, by decide +kernel, PySem.W.exm_ref b_LogError d_LogError t_LogError l_InvalidSize⟩
  have OInvalidNodes : OexC K CInvalidNodes := ⟨o_InvalidNodes, e_InvalidNodes, b_InvalidNodes, t_InvalidNodes, k_InvalidNodes⟩
  have UInvalidNodes : SupK l.prog K mg CInvalidNodes "item" := ⟨OInvalidNodes, f_InvalidNodes, u_InvalidNodes, v_InvalidNodes, w_InvalidNodes, x_o, x_p, PySem.W.mg_none_of X G x_s⟩
  have XInvalidNodes : SX l.prog w K mg base "InvalidNodes" CInvalidNodes "item" := sxInvalidNodes (PySem.W.mg_of X G n_InvalidNodes) UInvalidNodes j_InvalidNodes
  have FInvalidNodes : CF K CInvalidNodes "item" := ⟨⟨g_InvalidNodes, a_InvalidNodes, b_InvalidNodes, d_InvalidNodes⟩, f_InvalidNodes⟩
  have OInvalidText : OexC K CInvalidText := ⟨o_InvalidText, e_InvalidText, b_InvalidText, t_InvalidText, k_InvalidText⟩
  have UInvalidText : SupK l.prog K mg CInvalidText "part" := ⟨OInvalidText, f_InvalidText, u_InvalidText, v_InvalidText, w_InvalidText, x_o, x_p, PySem.W.mg_none_of X G x_s⟩
  have XInvalidText : SX l.prog w K mg base "InvalidText" CInvalidText "part" := sxInvalidText (PySem.W.mg_of X G n_InvalidText) UInvalidText j_InvalidText
  have FInvalidText : CF K CInvalidText "part" := ⟨⟨g_InvalidText, a_InvalidText, b_InvalidText, d_InvalidText⟩, f_InvalidText⟩
  have GLawClass := ok_law_class (P := l.prog) (w := w) (base := base) FLawClass GInvalidSpans GInvalidNodes GInvalidBounds GInvalidText GOverBudget GInvalidSize GInvalidEntry GInvalidNode GInvalidSpan GInvalidNumber GInvalidHeight GInvalidBudget GInvalidOperation GNothing GInvalidCommand z_isinstance z_len z_repr z_ValueError
  have GIsWholeV := ok_is_wholeV (P := l.prog) (w := w) (base := base) FIsWhole z_isinstance z_int z_bool
  have GIsWhole := ok_is_whole (P := l.prog) (w := w) (base := base) FIsWhole z_isinstance z_int z_bool
  have GIsBetweenV := ok_is_betweenV FIsBetween GIsWholeV AIsWhole
  have GIsBetween := ok_is_between FIsBetween GIsWhole AIsWhole
  have GIsTreeNode := ok_is_tree_nodeV FIsTreeNode GIsBetweenV AIsBetween z_isinstance z_tuple z_len
  have GIsListOf := ok_is_list_of (P := l.prog) (w := w) (base := base) FIsListOf z_isinstance z_list z_len
  have GIsListOfX := ok_is_list_ofX (P := l.prog) (w := w) (base := base) FIsListOf z_isinstance z_list z_len
  have GCheckSize := ok_check_size FCheckSize GIsBetween AIsBetween g_MOST_ENTRIES
  have GCheckNodes := ok_check_nodesM (P := l.prog) (w := w) (base := base) FCheckNodes GIsListOf AIsListOf GIsTreeNode AIsTreeNode z_enumerate
  have ACheckNodesAll : At K mg "check_nodes" _ _ ["size", "nodes", "least", "most"] := ⟨ACheckNodes.m, ACheckNodes.kp, check_all FCheckNodes⟩
  have GTextOf := ok_text_of (P := l.prog) (w := w) (mg := mg) (base := base) FTextOf
  have GNumberOf := ok_number_of (P := l.prog) (w := w) (base := base) FNumberOf g_MOST_DIGITS z_len z_int
  have GShowNodes := ok_show_nodes FShowNodes GCheckSize ACheckSize GCheckNodes ACheckNodesAll GTextOf ATextOf g_MOST_SHOWN
  have GReadNodes := ok_read_nodes FReadNodes GCheckSize ACheckSize GNumberOf ANumberOf GIsTreeNode AIsTreeNode z_enumerate z_isinstance z_str
  have YCheckSize := okX_check_size FCheckSize XInvalidSize GIsBetweenV AIsBetween g_MOST_ENTRIES
  have YCheckNodes := okX_check_nodes FCheckNodes XInvalidNodes GIsListOfX AIsListOf GIsTreeNode AIsTreeNode z_enumerate
  have YShowNodes := okX_show_nodes FShowNodes YCheckSize ACheckSize YCheckNodes ACheckNodesAll GTextOf ATextOf g_MOST_SHOWN
  have YReadNodes := okX_read_nodes FReadNodes XInvalidText YCheckSize ACheckSize GNumberOf ANumberOf GIsTreeNode AIsTreeNode z_enumerate z_isinstance z_str
  have GLawBag := ok_law_bag (P := l.prog) (w := w) (base := base) FLawBag z_max
  have GLawPick := ok_law_pick (P := l.prog) (w := w) (base := base) FLawPick z_int
  have GLawWord := ok_law_word FLawWord GLogError KInvalidSize KInvalidNodes FInvalidNodes (both (toX GShowNodes) YShowNodes) AShowNodes GLawClass ALawClass z_repr
  have GLawRead := ok_law_read FLawRead GLogError KInvalidSize (both (toX GReadNodes) YReadNodes) AReadNodes GLawClass ALawClass
  have GLawBadNodes := ok_law_bad_nodes (P := l.prog) (w := w) (mg := mg) (base := base) FLawBadNodes
  exact ok_law FLaw GLawBag ALawBag GLawPick ALawPick GLawWord ALawWord GLawRead ALawRead GLawBadNodes ALawBadNodes z_len z_tuple z_str
end LT
open PySem PySem.W PyProof.Rows
set_option maxRecDepth 100000 in
set_option maxHeartbeats 0 in
theorem PySem.Challenge.cw_logtrees_k39_text_errors_holds : PySem.Challenge.rw_logtrees_k39_text_errors.Holds := by
  w_on; o_law; k_head; (case hw => w_witness2)
  k_fill
  refine LT.walkG (l := PySem.Challenge.rw_logtrees_k39_text_errors) (n := 63) (k := 7) (x := "script") (sp := fun w => LT.spLaw _) rfl (by decide) rfl ⟨rfl, by decide, by decide⟩ (fun w h Y => PySem.W.kIn_of Y) ?F (fun _ _ a ns hl _ hS => ⟨a, ns, rfl, hS, hl, fun _ => rfl⟩)
  case F =>
    intro w mg fa h KX G hmg
    refine' LT.all_mk KX G hmg ?a0 ?l0 ?c0 ?k0 ?a1 ?l1 ?c1 ?k1 ?a2 ?l2 ?c2 ?k2 ?a3 ?l3 ?c3 ?k3 ?a4 ?l4 ?c4 ?k4 ?a5 ?l5 ?c5 ?k5 ?lT5 ?vT5 ?a6 ?l6 ?c6 ?k6 ?a7 ?l7 ?c7 ?k7 ?a8 ?l8 ?c8 ?k8 ?a9 ?l9 ?c9 ?k9 ?a10 ?l10 ?c10 ?k10 ?a11 ?l11 ?c11 ?k11 ?a12 ?l12 ?c12 ?k12 ?a13 ?l13 ?c13 ?k13 ?a14 ?l14 ?c14 ?k14 ?a15 ?l15 ?c15 ?k15 ?a16 ?l16 ?c16 ?k16 ?z_ValueError ?z_bool ?z_enumerate ?z_int ?z_isinstance ?z_len ?z_list ?z_max ?z_repr ?z_str ?z_tuple ?g_MOST_DIGITS ?g_MOST_ENTRIES ?g_MOST_SHOWN ?n_InvalidSpans ?i_InvalidSpans ?t_InvalidSpans ?n_InvalidNodes ?i_InvalidNodes ?t_InvalidNodes ?n_InvalidBounds ?i_InvalidBounds ?t_InvalidBounds ?n_InvalidText ?i_InvalidText ?t_InvalidText ?n_OverBudget ?i_OverBudget ?t_OverBudget ?n_InvalidSize ?i_InvalidSize ?t_InvalidSize ?n_InvalidEntry ?i_InvalidEntry ?t_InvalidEntry ?n_InvalidNode ?i_InvalidNode ?t_InvalidNode ?n_InvalidSpan ?i_InvalidSpan ?t_InvalidSpan ?n_InvalidNumber ?i_InvalidNumber ?t_InvalidNumber ?n_InvalidHeight ?i_InvalidHeight ?t_InvalidHeight ?n_InvalidBudget ?i_InvalidBudget ?t_InvalidBudget ?n_InvalidOperation ?i_InvalidOperation ?t_InvalidOperation ?n_Nothing ?i_Nothing ?t_Nothing ?n_InvalidCommand ?i_InvalidCommand ?t_InvalidCommand ?n_LogError ?i_LogError ?t_LogError ?b_LogError ?d_LogError ?k_InvalidNodes ?b_InvalidNodes ?g_InvalidNodes ?a_InvalidNodes ?d_InvalidNodes ?c_InvalidNodes ?m_InvalidNodes ?v_InvalidNodes ?l_InvalidNodes ?s_InvalidNodes_InvalidSpans ?s_InvalidNodes_InvalidNodes ?s_InvalidNodes_InvalidBounds ?s_InvalidNodes_InvalidText ?s_InvalidNodes_OverBudget ?s_InvalidNodes_InvalidSize ?s_InvalidNodes_InvalidEntry ?s_InvalidNodes_InvalidNode ?s_InvalidNodes_InvalidSpan ?s_InvalidNodes_InvalidNumber ?s_InvalidNodes_InvalidHeight ?s_InvalidNodes_InvalidBudget ?s_InvalidNodes_InvalidOperation ?s_InvalidNodes_Nothing ?s_InvalidNodes_InvalidCommand ?k_InvalidText ?b_InvalidText ?g_InvalidText ?a_InvalidText ?d_InvalidText ?c_InvalidText ?m_InvalidText ?v_InvalidText ?l_InvalidText ?s_InvalidText_InvalidSpans ?s_InvalidText_InvalidNodes ?s_InvalidText_InvalidBounds ?s_InvalidText_InvalidText ?s_InvalidText_OverBudget ?s_InvalidText_InvalidSize ?s_InvalidText_InvalidEntry ?s_InvalidText_InvalidNode ?s_InvalidText_InvalidSpan ?s_InvalidText_InvalidNumber ?s_InvalidText_InvalidHeight ?s_InvalidText_InvalidBudget ?s_InvalidText_InvalidOperation ?s_InvalidText_Nothing ?s_InvalidText_InvalidCommand ?k_InvalidSize ?b_InvalidSize ?g_InvalidSize ?a_InvalidSize ?d_InvalidSize ?c_InvalidSize ?m_InvalidSize ?v_InvalidSize ?l_InvalidSize ?q_InvalidSize ?s_InvalidSize_InvalidSpans ?s_InvalidSize_InvalidNodes ?s_InvalidSize_InvalidBounds ?s_InvalidSize_InvalidText ?s_InvalidSize_OverBudget ?s_InvalidSize_InvalidSize ?s_InvalidSize_InvalidEntry ?s_InvalidSize_InvalidNode ?s_InvalidSize_InvalidSpan ?s_InvalidSize_InvalidNumber ?s_InvalidSize_InvalidHeight ?s_InvalidSize_InvalidBudget ?s_InvalidSize_InvalidOperation ?s_InvalidSize_Nothing ?s_InvalidSize_InvalidCommand ?x_n ?x_t ?x_o ?x_s ?x_p ?o_InvalidNodes ?e_InvalidNodes ?f_InvalidNodes ?u_InvalidNodes ?w_InvalidNodes ?j_InvalidNodes ?o_InvalidText ?e_InvalidText ?f_InvalidText ?u_InvalidText ?w_InvalidText ?j_InvalidText
    (case a0 => k_is)
    (case l0 => k_is)
    (case c0 => k_is)
    (case k0 => k_is)
    (case a1 => k_is)
    (case l1 => k_is)
    (case c1 => k_is)
    (case k1 => k_is)
    (case a2 => k_is)
    (case l2 => k_is)
    (case c2 => k_is)
    (case k2 => k_is)
    (case a3 => k_is)
    (case l3 => k_is)
    (case c3 => k_is)
    (case k3 => k_is)
    (case a4 => k_is)
    (case l4 => k_is)
    (case c4 => k_is)
    (case k4 => k_is)
    (case a5 => k_is)
    (case l5 => k_is)
    (case c5 => k_is)
    (case k5 => k_is)
    (case lT5 => k_is)
    (case vT5 => exact .cons ⟨_, rfl⟩ (.cons ⟨_, rfl⟩ (.nil)))
    (case a6 => k_is)
    (case l6 => k_is)
    (case c6 => k_is)
    (case k6 => k_is)
    (case a7 => k_is)
    (case l7 => k_is)
    (case c7 => k_is)
    (case k7 => k_is)
    (case a8 => k_is)
    (case l8 => k_is)
    (case c8 => k_is)
    (case k8 => k_is)
    (case a9 => k_is)
    (case l9 => k_is)
    (case c9 => k_is)
    (case k9 => k_is)
    (case a10 => k_is)
    (case l10 => k_is)
    (case c10 => k_is)
    (case k10 => k_is)
    (case a11 => k_is)
    (case l11 => k_is)
    (case c11 => k_is)
    (case k11 => k_is)
    (case a12 => k_is)
    (case l12 => k_is)
    (case c12 => k_is)
    (case k12 => k_is)
    (case a13 => k_is)
    (case l13 => k_is)
    (case c13 => k_is)
    (case k13 => k_is)
    (case a14 => k_is)
    (case l14 => k_is)
    (case c14 => k_is)
    (case k14 => k_is)
    (case a15 => k_is)
    (case l15 => k_is)
    (case c15 => k_is)
    (case k15 => k_is)
    (case a16 => k_is)
    (case l16 => k_is)
    (case c16 => k_is)
    (case k16 => k_is)
    (case z_ValueError => k_is)
    (case z_bool => k_is)
    (case z_enumerate => k_is)
    (case z_int => k_is)
    (case z_isinstance => k_is)
    (case z_len => k_is)
    (case z_list => k_is)
    (case z_max => k_is)
    (case z_repr => k_is)
    (case z_str => k_is)
    (case z_tuple => k_is)
    (case g_MOST_DIGITS => k_is)
    (case g_MOST_ENTRIES => k_is)
    (case g_MOST_SHOWN => k_is)
    (case n_InvalidSpans => k_is)
    (case i_InvalidSpans => k_is)
    (case t_InvalidSpans => k_is)
    (case n_InvalidNodes => k_is)
    (case i_InvalidNodes => k_is)
    (case t_InvalidNodes => k_is)
    (case n_InvalidBounds => k_is)
    (case i_InvalidBounds => k_is)
    (case t_InvalidBounds => k_is)
    (case n_InvalidText => k_is)
    (case i_InvalidText => k_is)
    (case t_InvalidText => k_is)
    (case n_OverBudget => k_is)
    (case i_OverBudget => k_is)
    (case t_OverBudget => k_is)
    (case n_InvalidSize => k_is)
    (case i_InvalidSize => k_is)
    (case t_InvalidSize => k_is)
    (case n_InvalidEntry => k_is)
    (case i_InvalidEntry => k_is)
    (case t_InvalidEntry => k_is)
    (case n_InvalidNode => k_is)
    (case i_InvalidNode => k_is)
    (case t_InvalidNode => k_is)
    (case n_InvalidSpan => k_is)
    (case i_InvalidSpan => k_is)
    (case t_InvalidSpan => k_is)
    (case n_InvalidNumber => k_is)
    (case i_InvalidNumber => k_is)
    (case t_InvalidNumber => k_is)
    (case n_InvalidHeight => k_is)
    (case i_InvalidHeight => k_is)
    (case t_InvalidHeight => k_is)
    (case n_InvalidBudget => k_is)
    (case i_InvalidBudget => k_is)
    (case t_InvalidBudget => k_is)
    (case n_InvalidOperation => k_is)
    (case i_InvalidOperation => k_is)
    (case t_InvalidOperation => k_is)
    (case n_Nothing => k_is)
    (case i_Nothing => k_is)
    (case t_Nothing => k_is)
    (case n_InvalidCommand => k_is)
    (case i_InvalidCommand => k_is)
    (case t_InvalidCommand => k_is)
    (case n_LogError => k_is)
    (case i_LogError => k_is)
    (case t_LogError => k_is)
    (case b_LogError => k_is)
    (case d_LogError => k_is)
    (case k_InvalidNodes => k_is)
    (case b_InvalidNodes => k_is)
    (case g_InvalidNodes => k_is)
    (case a_InvalidNodes => k_is)
    (case d_InvalidNodes => k_is)
    (case c_InvalidNodes => k_is)
    (case m_InvalidNodes => k_is)
    (case v_InvalidNodes => k_is)
    (case l_InvalidNodes => k_is)
    (case s_InvalidNodes_InvalidSpans => k_is)
    (case s_InvalidNodes_InvalidNodes => k_is)
    (case s_InvalidNodes_InvalidBounds => k_is)
    (case s_InvalidNodes_InvalidText => k_is)
    (case s_InvalidNodes_OverBudget => k_is)
    (case s_InvalidNodes_InvalidSize => k_is)
    (case s_InvalidNodes_InvalidEntry => k_is)
    (case s_InvalidNodes_InvalidNode => k_is)
    (case s_InvalidNodes_InvalidSpan => k_is)
    (case s_InvalidNodes_InvalidNumber => k_is)
    (case s_InvalidNodes_InvalidHeight => k_is)
    (case s_InvalidNodes_InvalidBudget => k_is)
    (case s_InvalidNodes_InvalidOperation => k_is)
    (case s_InvalidNodes_Nothing => k_is)
    (case s_InvalidNodes_InvalidCommand => k_is)
    (case k_InvalidText => k_is)
    (case b_InvalidText => k_is)
    (case g_InvalidText => k_is)
    (case a_InvalidText => k_is)
    (case d_InvalidText => k_is)
    (case c_InvalidText => k_is)
    (case m_InvalidText => k_is)
    (case v_InvalidText => k_is)
    (case l_InvalidText => k_is)
    (case s_InvalidText_InvalidSpans => k_is)
    (case s_InvalidText_InvalidNodes => k_is)
    (case s_InvalidText_InvalidBounds => k_is)
    (case s_InvalidText_InvalidText => k_is)
    (case s_InvalidText_OverBudget => k_is)
    (case s_InvalidText_InvalidSize => k_is)
    (case s_InvalidText_InvalidEntry => k_is)
    (case s_InvalidText_InvalidNode => k_is)
    (case s_InvalidText_InvalidSpan => k_is)
    (case s_InvalidText_InvalidNumber => k_is)
    (case s_InvalidText_InvalidHeight => k_is)
    (case s_InvalidText_InvalidBudget => k_is)
    (case s_InvalidText_InvalidOperation => k_is)
    (case s_InvalidText_Nothing => k_is)
    (case s_InvalidText_InvalidCommand => k_is)
    (case k_InvalidSize => k_is)
    (case b_InvalidSize => k_is)
    (case g_InvalidSize => k_is)
    (case a_InvalidSize => k_is)
    (case d_InvalidSize => k_is)
    (case c_InvalidSize => k_is)
    (case m_InvalidSize => k_is)
    (case v_InvalidSize => k_is)
    (case l_InvalidSize => k_is)
    (case q_InvalidSize => k_exc)
    (case s_InvalidSize_InvalidSpans => k_is)
    (case s_InvalidSize_InvalidNodes => k_is)
    (case s_InvalidSize_InvalidBounds => k_is)
    (case s_InvalidSize_InvalidText => k_is)
    (case s_InvalidSize_OverBudget => k_is)
    (case s_InvalidSize_InvalidSize => k_is)
    (case s_InvalidSize_InvalidEntry => k_is)
    (case s_InvalidSize_InvalidNode => k_is)
    (case s_InvalidSize_InvalidSpan => k_is)
    (case s_InvalidSize_InvalidNumber => k_is)
    (case s_InvalidSize_InvalidHeight => k_is)
    (case s_InvalidSize_InvalidBudget => k_is)
    (case s_InvalidSize_InvalidOperation => k_is)
    (case s_InvalidSize_Nothing => k_is)
    (case s_InvalidSize_InvalidCommand => k_is)
    (case x_n => k_is)
    (case x_t => k_is)
    (case x_o => k_is)
    (case x_s => k_is)
    (case x_p => rfl)
    (case o_InvalidNodes => exact ⟨_, _, _, _, _, _, _, _, _, _, _, _, _, _, _, by k_is, by decide +kernel⟩)
    (case e_InvalidNodes => k_is)
    (case f_InvalidNodes => k_is)
    (case u_InvalidNodes => kernel_rfl)
    (case w_InvalidNodes => k_is)
    (case j_InvalidNodes => exact ⟨_, _, _, _, _, _, _, _, _, _, _, _, _, _, _, _, _, _, _, _, by k_is, by k_is, by k_is, by k_is, by k_is, by k_is, by exact rfl, by exact rfl⟩)
    (case o_InvalidText => exact ⟨_, _, _, _, _, _, _, _, _, _, _, _, _, _, _, by k_is, by decide +kernel⟩)
    (case e_InvalidText => k_is)
    (case f_InvalidText => k_is)
    (case u_InvalidText => kernel_rfl)
    (case w_InvalidText => k_is)
    (case j_InvalidText => exact ⟨_, _, _, _, _, _, _, _, _, _, _, _, _, _, _, _, _, _, _, _, by k_is, by k_is, by k_is, by k_is, by k_is, by k_is, by exact rfl, by exact rfl⟩)
