import PyProof.Rows.All
import Wide.All
import OpenK.AllK
import Wide.FinOn
import HandS.ForMost
import HandS.Wide
import HandS.WideBits
import HandS.IsInst
import HandS.Style
import HandS.Deep
import HandS.RaiseMore
import HandS.Conv
import HandS.Flow
import HandS.SortRule
import HandS.NoneIn
import HandS.TupLen
import HandS.Walk
import PyProof.ReprRoads
import PyProof.Rows.NestShow
import KE.DataMinMax
import KE.SortData
import PySem.Challenge.RW_logtrees_k27_tiles_by_listing
set_option Elab.async false
set_option linter.all false
set_option maxRecDepth 100000
set_option maxHeartbeats 4000000
namespace LT
/-- the greatest power of two less than m (m from 2) -/
def gp (m : Nat) : Nat := 2 ^ Nat.log2 (m - 1)
theorem gp_pos (m : Nat) : 0 < gp m := Nat.pow_pos (by decide)
theorem gp_lt {m : Nat} (h : 2 ≤ m) : gp m < m := by
  have := Nat.log2_self_le (n := m - 1) (by omega)
  unfold gp; omega
theorem gp_ge {m : Nat} (h : 2 ≤ m) : m ≤ 2 * gp m := by
  have := Nat.lt_log2_self (n := m - 1)
  unfold gp; rw [Nat.pow_succ] at this; omega
theorem pow_eq_of {i j : Nat} {m : Nat} (h1 : 2 ^ i < m) (h2 : m ≤ 2 * 2 ^ i) (h3 : 2 ^ j < m) (h4 : m ≤ 2 * 2 ^ j) : i = j := by
  have a : 2 ^ i < 2 ^ (j + 1) := by rw [Nat.pow_succ]; omega
  have b : 2 ^ j < 2 ^ (i + 1) := by rw [Nat.pow_succ]; omega
  have a' := (Nat.pow_lt_pow_iff_right (by decide : 1 < 2)).mp a
  have b' := (Nat.pow_lt_pow_iff_right (by decide : 1 < 2)).mp b
  omega
theorem gp_eq {i m : Nat} (h1 : 2 ^ i < m) (h2 : m ≤ 2 * 2 ^ i) : gp m = 2 ^ i := by
  have h : 2 ≤ m := by have := Nat.pow_pos (a := 2) (n := i) (by decide); omega
  have := pow_eq_of (gp_lt h) (gp_ge h) h1 h2
  unfold gp; rw [this]
theorem gp_pow (i : Nat) : gp (2 ^ (i + 1)) = 2 ^ i := gp_eq (by rw [Nat.pow_succ]; have := Nat.pow_pos (a := 2) (n := i) (by decide); omega) (by rw [Nat.pow_succ]; omega)

/-- siblings from the root's half down to the leaf's: nodes as (begin, length-end) pairs -/
def sib (b m e : Nat) : List (Nat × Nat) :=
  if h : m ≤ 1 then [] else
    if e < b + gp m then (b + gp m, b + m) :: sib b (gp m) e
    else (b, b + gp m) :: sib (b + gp m) (m - gp m) e
termination_by m
decreasing_by
  · exact gp_lt (by omega)
  · have := gp_pos m; omega
theorem sib_one {b m e : Nat} (h : m ≤ 1) : sib b m e = [] := by rw [sib]; simp [h]
theorem sib_low {b m e : Nat} (h : 2 ≤ m) (k : e < b + gp m) : sib b m e = (b + gp m, b + m) :: sib b (gp m) e := by
  rw [sib]; rw [dif_neg (by omega), if_pos k]
theorem sib_high {b m e : Nat} (h : 2 ≤ m) (k : ¬ e < b + gp m) : sib b m e = (b, b + gp m) :: sib (b + gp m) (m - gp m) e := by
  rw [sib]; rw [dif_neg (by omega), if_neg k]

/-! ### joining up again -/
def join (x y : Nat × Nat) : Nat × Nat := (min x.1 y.1, max x.2 y.2)
/-- the halves of a node -/
def halv (x : Nat × Nat) : (Nat × Nat) × (Nat × Nat) := ((x.1, x.1 + gp (x.2 - x.1)), (x.1 + gp (x.2 - x.1), x.2))
def ok1 (x y : Nat × Nat) : Prop := (join x y).1 + 2 ≤ (join x y).2 ∧ (halv (join x y) = (x, y) ∨ halv (join x y) = (y, x))
def oks : Nat × Nat → List (Nat × Nat) → Prop
  | _, [] => True
  | x, y :: r => ok1 x y ∧ oks (join x y) r
def top : Nat × Nat → List (Nat × Nat) → Nat × Nat
  | x, [] => x
  | x, y :: r => top (join x y) r
theorem oks_append : ∀ (x : Nat × Nat) (l r : List (Nat × Nat)), oks x l → oks (top x l) r → oks x (l ++ r)
  | _, [], _, _, h => h
  | x, y :: l, r, h1, h2 => ⟨h1.1, oks_append (join x y) l r h1.2 h2⟩
theorem top_append : ∀ (x : Nat × Nat) (l r : List (Nat × Nat)), top x (l ++ r) = top (top x l) r
  | _, [], _ => rfl
  | x, y :: l, r => top_append (join x y) l r
theorem sib_up : ∀ (m b e : Nat), b ≤ e → e < b + m → oks (e, e + 1) (sib b m e).reverse ∧ top (e, e + 1) (sib b m e).reverse = (b, b + m) := by
  intro m
  induction m using Nat.strongRecOn with
  | ind m ih =>
    intro b e h1 h2
    by_cases hm : m ≤ 1
    · have : m = 1 := by omega
      subst this
      rw [sib_one (by omega)]
      have : e = b := by omega
      subst this
      exact ⟨True.intro, rfl⟩
    · have g1 := gp_lt (m := m) (by omega)
      have g2 := gp_pos m
      by_cases k : e < b + gp m
      · rw [sib_low (by omega) k, List.reverse_cons]
        obtain ⟨p, q⟩ := ih (gp m) g1 b e h1 k
        have j : join (b, b + gp m) (b + gp m, b + m) = (b, b + m) := by
          unfold join; simp only []; rw [Nat.min_eq_left (by omega), Nat.max_eq_right (by omega)]
        refine ⟨oks_append _ _ _ p ?_, ?_⟩
        · rw [q]
          refine ⟨⟨?_, .inl ?_⟩, True.intro⟩
          · rw [j]; simp only []; omega
          · rw [j]; unfold halv; simp only []; rw [Nat.add_sub_cancel_left]
        · rw [top_append, q]; exact j
      · rw [sib_high (by omega) k, List.reverse_cons]
        obtain ⟨p, q⟩ := ih (m - gp m) (by omega) (b + gp m) e (by omega) (by omega)
        have e2 : b + gp m + (m - gp m) = b + m := by omega
        rw [e2] at q
        have j : join (b + gp m, b + m) (b, b + gp m) = (b, b + m) := by
          unfold join; simp only []; rw [Nat.min_eq_right (by omega), Nat.max_eq_left (by omega)]
        refine ⟨oks_append _ _ _ p ?_, ?_⟩
        · rw [q]
          refine ⟨⟨?_, .inr ?_⟩, True.intro⟩
          · rw [j]; simp only []; omega
          · rw [j]; unfold halv; simp only []; rw [Nat.add_sub_cancel_left]
        · rw [top_append, q]; exact j
theorem sib_len_pow (i : Nat) : ∀ (b e : Nat), b ≤ e → e < b + 2 ^ i → (sib b (2 ^ i) e).length = i := by
  induction i with
  | zero => intro b e h1 h2; rw [sib_one (by simp)]; rfl
  | succ i ih =>
    intro b e h1 h2
    have h3 : 2 ≤ 2 ^ (i + 1) := by rw [Nat.pow_succ]; have := Nat.pow_pos (a := 2) (n := i) (by decide); omega
    have g := gp_pow i
    have e2 : 2 ^ (i + 1) - 2 ^ i = 2 ^ i := by rw [Nat.pow_succ]; omega
    by_cases k : e < b + gp (2 ^ (i + 1))
    · rw [sib_low h3 k, List.length_cons, g, ih b e h1 (by omega)]
    · rw [sib_high h3 k, List.length_cons, g, e2, ih (b + 2 ^ i) e (by omega) (by rw [Nat.pow_succ] at h2; omega)]
/-! ### the peaks by digits: (begin, height) -/
def pk : Nat → Nat → Nat → List (Nat × Nat)
  | 0, _, _ => []
  | i + 1, n, b => if n.testBit i then (b, i) :: pk i n (b + 2 ^ i) else pk i n b
theorem mod_succ (n i : Nat) : n % 2 ^ (i + 1) = (if n.testBit i then 2 ^ i else 0) + n % 2 ^ i := by
  rw [Nat.mod_pow_succ, Nat.testBit_eq_decide_div_mod_eq, Nat.add_comm]
  have h : n / 2 ^ i % 2 = 0 ∨ n / 2 ^ i % 2 = 1 := by omega
  rcases h with h | h <;> rw [h] <;> simp
theorem pk_nil : ∀ (i n b : Nat), n % 2 ^ i = 0 → pk i n b = []
  | 0, _, _, _ => rfl
  | i + 1, n, b, h => by
    rw [mod_succ] at h
    have p := Nat.pow_pos (a := 2) (n := i) (by decide)
    unfold pk
    cases t : n.testBit i with
    | true => rw [t] at h; simp at h
    | false => rw [t] at h; simp at h; simp; exact pk_nil i n b h
theorem pk_ne : ∀ (i n b : Nat), n % 2 ^ i ≠ 0 → pk i n b ≠ []
  | 0, _, _, h => by simp [Nat.mod_one] at h
  | i + 1, n, b, h => by
    rw [mod_succ] at h
    unfold pk
    cases t : n.testBit i with
    | true => simp
    | false => rw [t] at h; simp at h; simp; exact pk_ne i n b (by omega)
theorem pk_begin : ∀ (i n b : Nat) (x : Nat × Nat), x ∈ pk i n b → b ≤ x.1 ∧ x.2 < i
  | 0, _, _, _, h => by simp [pk] at h
  | i + 1, n, b, x, h => by
    unfold pk at h
    cases t : n.testBit i with
    | true =>
      rw [t] at h; simp at h
      rcases h with h | h
      · subst h; exact ⟨Nat.le_refl _, Nat.lt_succ_self _⟩
      · have := pk_begin i n _ x h; have p := Nat.pow_pos (a := 2) (n := i) (by decide); omega
    | false =>
      rw [t] at h; simp at h
      have := pk_begin i n _ x h; omega
/-- what the law says of the levels: s the place of the first row, of t rows in all -/
def lev (t : Nat) : Nat → List (Nat × Nat) → List (Nat × Nat × Nat)
  | _, [] => []
  | s, x :: r => (x.1, x.1 + 2 ^ x.2, x.2 + min (s + 1) (t - 1)) :: lev t (s + 1) r
def due (e : Nat) (l : List (Nat × Nat × Nat)) : List Nat := (l.filter fun x => decide (x.1 ≤ e) && decide (e < x.2.1)).map fun x => x.2.2
theorem due_none (t e : Nat) : ∀ (l : List (Nat × Nat)) (s : Nat), (∀ x ∈ l, e < x.1) → due e (lev t s l) = []
  | [], _, _ => rfl
  | x :: r, s, h => by
    have h1 := h x (List.mem_cons_self)
    have ih := due_none t e r (s + 1) fun y hy => h y (List.mem_cons_of_mem _ hy)
    show List.map _ (List.filter _ ((x.1, x.1 + 2 ^ x.2, x.2 + min (s + 1) (t - 1)) :: lev t (s + 1) r)) = []
    rw [List.filter_cons, if_neg (by simp; omega)]
    exact ih
theorem due_is (n e : Nat) : ∀ (i b s : Nat), b ≤ e → e < b + n % 2 ^ i → due e (lev (s + (pk i n b).length) s (pk i n b)) = [(sib b (n % 2 ^ i) e).length + min s (s + (pk i n b).length - 1)] := by
  intro i
  induction i with
  | zero => intro b s h1 h2; simp [Nat.mod_one] at h2; omega
  | succ i ih =>
    intro b s h1 h2
    have p := Nat.pow_pos (a := 2) (n := i) (by decide)
    have ml := Nat.mod_lt n p
    cases t : n.testBit i with
    | false =>
      have e1 : n % 2 ^ (i + 1) = n % 2 ^ i := by rw [mod_succ, t]; simp
      have e2 : pk (i + 1) n b = pk i n b := by show (if n.testBit i = true then _ else _) = _; rw [t]; simp
      rw [e1] at h2
      rw [e1, e2]; exact ih b s h1 h2
    | true =>
      have e1 : n % 2 ^ (i + 1) = 2 ^ i + n % 2 ^ i := by rw [mod_succ, t]; simp
      have e2 : pk (i + 1) n b = (b, i) :: pk i n (b + 2 ^ i) := by show (if n.testBit i = true then _ else _) = _; rw [t]; simp
      rw [e1] at h2
      rw [e1, e2, List.length_cons]
      by_cases r0 : n % 2 ^ i = 0
      · rw [pk_nil i n _ r0, r0]
        rw [r0] at h2
        rw [Nat.add_zero] at h2
        rw [Nat.add_zero (2 ^ i), sib_len_pow i b e h1 h2]
        show List.map _ (List.filter _ [(b, b + 2 ^ i, i + min (s + 1) (s + (0 + 1) - 1))]) = _
        rw [List.filter_cons, if_pos (by simp; omega)]
        simp
      · have hne : 1 ≤ (pk i n (b + 2 ^ i)).length := by
          have := pk_ne i n (b + 2 ^ i) r0
          cases hh : pk i n (b + 2 ^ i) with
          | nil => exact absurd hh this
          | cons _ _ => rw [List.length_cons]; omega
        have g : gp (2 ^ i + n % 2 ^ i) = 2 ^ i := gp_eq (by omega) (by omega)
        by_cases k : e < b + 2 ^ i
        · rw [sib_low (by omega) (by rw [g]; exact k), g, List.length_cons, sib_len_pow i b e h1 k]
          have d := due_none (s + ((pk i n (b + 2 ^ i)).length + 1)) e (pk i n (b + 2 ^ i)) (s + 1) fun x hx => by have := pk_begin _ _ _ x hx; omega
          show List.map _ (List.filter _ ((b, b + 2 ^ i, i + min (s + 1) (s + ((pk i n (b + 2 ^ i)).length + 1) - 1)) :: lev (s + ((pk i n (b + 2 ^ i)).length + 1)) (s + 1) (pk i n (b + 2 ^ i)))) = _
          rw [List.filter_cons, if_pos (by simp; omega), List.map_cons]
          have d' : List.map (fun x => x.2.2) (List.filter (fun x => decide (x.1 ≤ e) && decide (e < x.2.1)) (lev (s + ((pk i n (b + 2 ^ i)).length + 1)) (s + 1) (pk i n (b + 2 ^ i)))) = [] := d
          rw [d']
          simp
          omega
        · rw [sib_high (by omega) (by rw [g]; exact k), g, List.length_cons, Nat.add_sub_cancel_left]
          have q := ih (b + 2 ^ i) (s + 1) (by omega) (by omega)
          have e3 : s + 1 + (pk i n (b + 2 ^ i)).length = s + ((pk i n (b + 2 ^ i)).length + 1) := by omega
          rw [e3] at q
          show List.map _ (List.filter _ ((b, b + 2 ^ i, i + min (s + 1) (s + ((pk i n (b + 2 ^ i)).length + 1) - 1)) :: lev (s + ((pk i n (b + 2 ^ i)).length + 1)) (s + 1) (pk i n (b + 2 ^ i)))) = _
          rw [List.filter_cons, if_neg (by simp; omega)]
          refine Eq.trans q ?_
          congr 1
          omega
/-! ### which pairs are nodes -/
/-- the bits of m - 1 -/
def lb (m : Nat) : Nat := if m ≤ 1 then 0 else Nat.log2 (m - 1) + 1
theorem lb_le {x i : Nat} (h : x ≤ 2 ^ i) : lb x ≤ i := by
  unfold lb
  by_cases k : x ≤ 1
  · rw [if_pos k]; omega
  · rw [if_neg k]
    have h1 := Nat.log2_self_le (n := x - 1) (by omega)
    have h2 : 2 ^ Nat.log2 (x - 1) < 2 ^ i := by omega
    exact (Nat.pow_lt_pow_iff_right (by decide : 1 < 2)).mp h2
theorem lb_ge (x : Nat) : x ≤ 2 ^ lb x := by
  unfold lb
  by_cases k : x ≤ 1
  · rw [if_pos k]; omega
  · rw [if_neg k]
    have := Nat.lt_log2_self (n := x - 1)
    omega
theorem lb_pow (i : Nat) : lb (2 ^ i) = i := by
  have h1 := lb_le (Nat.le_refl (2 ^ i))
  have h2 := (Nat.pow_le_pow_iff_right (by decide : 1 < 2)).mp (lb_ge (2 ^ i))
  omega
theorem lb_gp {m : Nat} (h : 2 ≤ m) : 2 ^ lb m = 2 * gp m := by
  unfold lb gp; rw [if_neg (by omega), Nat.pow_succ]; omega
def tree (n b m : Nat) : Prop := 2 ^ lb m ∣ b ∧ (m = 2 ^ lb m ∨ b + m = n)
theorem tree_root (n : Nat) : tree n 0 n := ⟨Nat.dvd_zero _, .inr (Nat.zero_add _)⟩
theorem tree_low {n b m : Nat} (h : 2 ≤ m) (t : tree n b m) : tree n b (gp m) := by
  obtain ⟨d, _⟩ := t
  rw [lb_gp h] at d
  have e : 2 ^ lb (gp m) = gp m := by unfold gp; rw [lb_pow]
  exact ⟨by rw [e]; exact Nat.dvd_trans (Nat.dvd_mul_left _ _) d, .inl e.symm⟩
theorem tree_high {n b m : Nat} (h : 2 ≤ m) (t : tree n b m) : tree n (b + gp m) (m - gp m) := by
  obtain ⟨d, k⟩ := t
  rw [lb_gp h] at d k
  have g1 := gp_lt h
  have g2 := gp_ge h
  have dg : 2 ^ lb (m - gp m) ∣ gp m := by
    have : lb (m - gp m) ≤ Nat.log2 (m - 1) := lb_le (by unfold gp at g1 g2 ⊢; omega)
    exact Nat.pow_dvd_pow 2 this
  refine ⟨Nat.dvd_add (Nat.dvd_trans dg (Nat.dvd_trans (Nat.dvd_mul_left _ _) d)) dg, ?_⟩
  rcases k with k | k
  · left
    have e : m - gp m = gp m := by omega
    rw [e]
    unfold gp; rw [lb_pow]
  · right; omega
theorem sib_len_le : ∀ (m b e : Nat), b ≤ e → e < b + m → (sib b m e).length ≤ lb m := by
  intro m
  induction m using Nat.strongRecOn with
  | ind m ih =>
    intro b e h1 h2
    by_cases hm : m ≤ 1
    · rw [sib_one hm]; exact Nat.zero_le _
    · have g1 := gp_lt (m := m) (by omega)
      have g2 := gp_ge (m := m) (by omega)
      have g3 := gp_pos m
      have e1 : lb m = Nat.log2 (m - 1) + 1 := by unfold lb; rw [if_neg hm]
      by_cases k : e < b + gp m
      · rw [sib_low (by omega) k, List.length_cons]
        have := ih (gp m) g1 b e h1 k
        have e2 : lb (gp m) = Nat.log2 (m - 1) := by unfold gp; rw [lb_pow]
        omega
      · rw [sib_high (by omega) k, List.length_cons]
        have := ih (m - gp m) (by omega) (b + gp m) e (by omega) (by omega)
        have e2 : lb (m - gp m) ≤ Nat.log2 (m - 1) := lb_le (by unfold gp at g1 g2 ⊢; omega)
        omega
end LT
namespace LT
open PySem PySem.Spec PyProof.Rows L2
def topS (i : Nat) : Stmt := PySem.Challenge.pw_logtrees_k27_tiles_by_listing.main.body.getD i (.Pass ⟨0, 0, 0, 0⟩)
abbrev sIsWhole : Stmt := topS 8
theorem scIsWhole : FnScope ["value"] ["value"] (defScope sIsWhole) := ⟨rfl, rfl, rfl, by decide +kernel, rfl, by decide +kernel, by decide +kernel⟩
abbrev sIsBetween : Stmt := topS 9
theorem scIsBetween : FnScope ["value", "low", "high"] ["value", "low", "high"] (defScope sIsBetween) := ⟨rfl, rfl, rfl, by decide +kernel, rfl, by decide +kernel, by decide +kernel⟩
abbrev sCheckSize : Stmt := topS 10
theorem scCheckSize : FnScope ["size"] ["size"] (defScope sCheckSize) := ⟨rfl, rfl, rfl, by decide +kernel, rfl, by decide +kernel, by decide +kernel⟩
abbrev sCheckNumberFrom : Stmt := topS 11
theorem scCheckNumberFrom : FnScope ["number", "least"] ["number", "least"] (defScope sCheckNumberFrom) := ⟨rfl, rfl, rfl, by decide +kernel, rfl, by decide +kernel, by decide +kernel⟩
abbrev sCheckHeight : Stmt := topS 12
theorem scCheckHeight : FnScope ["height"] ["height"] (defScope sCheckHeight) := ⟨rfl, rfl, rfl, by decide +kernel, rfl, by decide +kernel, by decide +kernel⟩
abbrev sKeptCounts : Stmt := topS 14
theorem scKeptCounts : FnScope ["size", "height", "counts", "count"] ["size", "height"] (defScope sKeptCounts) := ⟨rfl, rfl, rfl, by decide +kernel, rfl, by decide +kernel, by decide +kernel⟩
abbrev sTilesFor : Stmt := topS 15
theorem scTilesFor : FnScope ["count", "height"] ["count", "height"] (defScope sTilesFor) := ⟨rfl, rfl, rfl, by decide +kernel, rfl, by decide +kernel, by decide +kernel⟩
abbrev sTileCount : Stmt := topS 16
theorem scTileCount : FnScope ["size", "height", "counts", "count"] ["size", "height"] (defScope sTileCount) := ⟨rfl, rfl, rfl, by decide +kernel, rfl, by decide +kernel, by decide +kernel⟩
abbrev sTileWidth : Stmt := topS 17
theorem scTileWidth : FnScope ["size", "height", "level", "number", "counts", "left"] ["size", "height", "level", "number"] (defScope sTileWidth) := ⟨rfl, rfl, rfl, by decide +kernel, rfl, by decide +kernel, by decide +kernel⟩
abbrev sLawBag : Stmt := topS 19
theorem scLawBag : FnScope ["cell"] ["cell"] (defScope sLawBag) := ⟨rfl, rfl, rfl, by decide +kernel, rfl, by decide +kernel, by decide +kernel⟩
abbrev sLawPick : Stmt := topS 20
theorem scLawPick : FnScope ["bag", "many", "told", "seed", "turn", "first", "second", "drawn"] ["bag", "many"] (defScope sLawPick) := ⟨rfl, rfl, rfl, by decide +kernel, rfl, by decide +kernel, by decide +kernel⟩
abbrev sLawSize : Stmt := topS 21
theorem scLawSize : FnScope ["bag", "most", "way", "powers", "turn"] ["bag", "most"] (defScope sLawSize) := ⟨rfl, rfl, rfl, by decide +kernel, rfl, by decide +kernel, by decide +kernel⟩
abbrev sLawWidths : Stmt := topS 22
theorem scLawWidths : FnScope ["size", "tall", "found", "rank", "wide", "first", "key"] ["size", "tall"] (defScope sLawWidths) := ⟨rfl, rfl, rfl, by decide +kernel, rfl, by decide +kernel, by decide +kernel⟩
abbrev sLawRight : Stmt := topS 23
theorem scLawRight : FnScope ["size", "tall", "widths", "key", "whole", "rank", "number"] ["size", "tall"] (defScope sLawRight) := ⟨rfl, rfl, rfl, by decide +kernel, rfl, by decide +kernel, by decide +kernel⟩
abbrev sLaw : Stmt := topS 24
theorem scLaw : FnScope ["script", "cell", "bag", "turn", "number"] ["script"] (defScope sLaw) := ⟨rfl, rfl, rfl, by decide +kernel, rfl, by decide +kernel, by decide +kernel⟩
/-- a def as it stands behind the top -/
structure At (K : PySem.W.Frag) (mg : Str → Option Value) (x : Str) (f : Addr) (fd : FuncData) (ps : List Str) : Prop where
  m : mg x = some (.ref f)
  kp : PySem.W.keepIn K (.ref f) = true
  b : Binds K fd ps []
theorem units1 {k : Nat} {A : Around} (r : Room k A) : A.units + 65 < cLine := by have := r.un; omega
/-- all but b as it was -/
def But (b : Addr) (H H' : Hp) : Prop := ∀ a o, a ≠ b → H a = some o → H' a = some o
theorem But.refl (b : Addr) (H : Hp) : But b H H := fun _ _ _ h => h
theorem But.trans {b : Addr} {H H1 H2 : Hp} (x : But b H H1) (y : But b H1 H2) : But b H H2 := fun a o n h => y a o n (x a o n h)
theorem But.of {b : Addr} {H H1 : Hp} (x : Same H H1) : But b H H1 := fun a o _ h => x a o h
theorem same_upd {H : Hp} {p : Addr} {o : HO} (h : H p = none) : Same H (upd H p o) := fun b x e => by
  rw [upd_ne (ne_of_none e h)]
  exact e
def BagAt (H : Hp) (b : Addr) : Prop := ∃ x y z : Int, H b = some (.lst [.int x, .int y, .int z])
theorem BagAt.same {H H' : Hp} {b : Addr} (h : BagAt H b) (s : Same H H') : BagAt H' b := by
  obtain ⟨x, y, z, e⟩ := h
  exact ⟨x, y, z, s _ _ e⟩
/-- a pair of ints -/
def Nd (H : Hp) (v : V) (x : Nat × Nat) : Prop := ∃ p, v = .ref p ∧ H p = some (.tup [.int x.1, .int x.2])
theorem Nd.same {H H' : Hp} {v : V} {x : Nat × Nat} (h : Nd H v x) (s : Same H H') : Nd H' v x := by
  obtain ⟨p, e, q⟩ := h
  exact ⟨p, e, s _ _ q⟩
theorem Nd.dp {K : PySem.W.Frag} {H : Hp} {v : V} {x : Nat × Nat} (h : Nd H v x) : Dp K H v (.tuple [.int x.1, .int x.2]) := by
  obtain ⟨p, rfl, q⟩ := h
  exact .tup (SqT.of q) (.cons (.int _) (.cons (.int _) .nil))
theorem nd_shaped (a b : Int) : SeqAt.shaped (.tuple [.int a, .int b]) = true := by
  show (PyData.canLay0 _ && decide (PyData.depth _ ≤ 64)) = true
  simp [PyData.canLay0, PyData.canLayAll0, PyData.depth, PyData.depthAll]
theorem nd_eqv (a b c d : Int) : PyData.eqv (.tuple [.int a, .int b]) (.tuple [.int c, .int d]) = (decide (a = c) && decide (b = d)) := by
  have e : PyData.eqv (.tuple [.int a, .int b]) (.tuple [.int c, .int d]) = ((a == c) && ((b == d) && true)) := by simp only [PyData.eqv, PyData.eqvAll]
  rw [e, Bool.and_true]
  by_cases h1 : a = c <;> by_cases h2 : b = d <;> simp [h1, h2]
/-- lists of values and what they stand for -/
inductive All2 {α : Type} (R : V → α → Prop) : List V → List α → Prop
  | nil : All2 R [] []
  | cons {v : V} {x : α} {vs : List V} {xs : List α} : R v x → All2 R vs xs → All2 R (v :: vs) (x :: xs)
section
variable {α : Type} {R R' : V → α → Prop}
theorem All2.mono (f : ∀ v x, R v x → R' v x) : ∀ {vs : List V} {xs : List α}, All2 R vs xs → All2 R' vs xs
  | _, _, .nil => .nil
  | _, _, .cons h t => .cons (f _ _ h) (All2.mono f t)
theorem All2.len : ∀ {vs : List V} {xs : List α}, All2 R vs xs → vs.length = xs.length
  | _, _, .nil => rfl
  | _, _, .cons _ t => by rw [List.length_cons, List.length_cons, All2.len t]
theorem All2.app : ∀ {vs : List V} {xs : List α} {us : List V} {ys : List α}, All2 R vs xs → All2 R us ys → All2 R (vs ++ us) (xs ++ ys)
  | _, _, _, _, .nil, h => h
  | _, _, _, _, .cons h t, k => .cons h (All2.app t k)
theorem All2.rev : ∀ {vs : List V} {xs : List α}, All2 R vs xs → All2 R vs.reverse xs.reverse
  | _, _, .nil => .nil
  | _, _, .cons h t => by
    rw [List.reverse_cons, List.reverse_cons]
    exact All2.app (All2.rev t) (.cons h .nil)
theorem All2.nth : ∀ {vs : List V} {xs : List α} {i : Nat} {v : V}, All2 R vs xs → vs[i]? = some v → ∃ x, xs[i]? = some x ∧ R v x
  | _, _, _, _, .nil, h => by simp at h
  | _, _, 0, _, .cons h t, e => by
    have := Option.some.inj e
    subst this
    exact ⟨_, rfl, h⟩
  | _, _, i + 1, _, .cons h t, e => by
    rw [List.getElem?_cons_succ] at e ⊢
    exact All2.nth t e
theorem All2.nth2 : ∀ {vs : List V} {xs : List α} {i : Nat} {x : α}, All2 R vs xs → xs[i]? = some x → ∃ v, vs[i]? = some v ∧ R v x
  | _, _, _, _, .nil, h => by simp at h
  | _, _, 0, _, .cons h t, e => by
    have := Option.some.inj e
    subst this
    exact ⟨_, rfl, h⟩
  | _, _, i + 1, _, .cons h t, e => by
    rw [List.getElem?_cons_succ] at e ⊢
    exact All2.nth2 t e
end

/-! ### rules within a comprehension: what they say of the written part is said of the def's -/
section
open PySem L2
variable {X : Cx} {s : Shared} {H : Hp} {sc : Scope} {ce : Env} {fp : List Addr}
theorem pg_tupB {es : List Expr} {k : Nat} {pos : Pos} {t : TGs} {n : Nat} (hc : X.calm = true) (h : PGs (X.blk s H sc ce fp) es t)
    (hn : (assignEach es (X.blk s H sc ce fp).env).length = n := by rfl) (hst : (assignEach es (X.blk s H sc ce fp).env).findIdx? (·.1) = none := by rfl) : PG (X.blk s H sc ce fp) (.Tuple es k pos) (gTup X.K n t) := pg_tup hc h hn hst
theorem ix_listB : IxR (X.blk s H sc ce fp) (rIxL X.K) := ix_list
theorem ix_tupB : IxR (X.blk s H sc ce fp) (rIxT X.K) := ix_tup
theorem call_len_seqB : CallR (X.blk s H sc ce fp) (.builtin "len") (fun xs H Q => ∃ p ys, xs = [.ref p] ∧ (SqL X.K H p ys ∨ SqT X.K H p ys) ∧ Q (.int ys.length) H) := call_len_seq
theorem op_eqDB (hu : X.A.units + 64 < cLine) : OpR (X.blk s H sc ce fp) (compareOp .Eq) (rEqD X.K) := op_eqD (X := X.blk s H sc ce fp) hu
theorem op_neDB (hu : X.A.units + 64 < cLine) : OpR (X.blk s H sc ce fp) (compareOp .NotEq) (rNeD X.K) := op_neD (X := X.blk s H sc ce fp) hu
theorem op_inDB (hu : X.A.units + 65 < cLine) : OpR (X.blk s H sc ce fp) (compareOp .In) (rInD X.K) := op_inD (X := X.blk s H sc ce fp) hu
theorem op_notInDB (hu : X.A.units + 65 < cLine) : OpR (X.blk s H sc ce fp) (compareOp .NotIn) (rNotInD X.K) := op_notInD (X := X.blk s H sc ce fp) hu
end
theorem Nd.upd {H : Hp} {v : V} {x : Nat × Nat} {s : Addr} {xs : List V} {o : HO} (h : Nd H v x) (hs : H s = some (.lst xs)) : Nd (upd H s o) v x := by
  obtain ⟨p, e, q⟩ := h
  exact ⟨p, e, by rw [upd_ne (ne_of q hs (by intro z; cases z))]; exact q⟩
def full (x : Nat × Nat) : Nat × Nat := (x.1, x.1 + 2 ^ x.2)
theorem pk_len : ∀ (i n b : Nat), (pk i n b).length ≤ i
  | 0, _, _ => Nat.le_refl _
  | i + 1, n, b => by
    show (if n.testBit i = true then (b, i) :: pk i n (b + 2 ^ i) else pk i n b).length ≤ i + 1
    by_cases t : n.testBit i = true
    · rw [if_pos t, List.length_cons]
      exact Nat.succ_le_succ (pk_len i n _)
    · rw [if_neg t]
      exact Nat.le_succ_of_le (pk_len i n b)
theorem take_more {α : Type} : ∀ {l : List α} {i : Nat} {x : α}, l[i]? = some x → l.take (i + 1) = l.take i ++ [x]
  | [], i, x, h => by simp at h
  | a :: l, 0, x, h => by
    have e : a = x := Option.some.inj h
    subst e
    rfl
  | a :: l, i + 1, x, h => by
    have ih := take_more (l := l) (i := i) (x := x) h
    show a :: l.take (i + 1) = a :: l.take i ++ [x]
    rw [ih]
    rfl
theorem szle {n : Nat} (h : n ≤ 100000) : n ≤ sizeLine := Nat.le_trans h (by decide)
theorem szlt {n : Nat} (h : n < 100000) : n < sizeLine := Nat.lt_of_lt_of_le h (by decide)
end LT

namespace LT
open PySem PySem.Spec PyProof.Rows L2
section
variable {P : Program} {w : World} {K : PySem.W.Frag} {mg : Str → Option Value} {base : Heap}
def spWhole : Sp := fun vs H Q _ => ∃ i : Int, vs = [.int i] ∧ Q (.bl true) H
theorem ok_is_whole {f : Addr} {fd : FuncData} (F : Fun K "is_whole" "is_whole" sIsWhole f fd) (z_isinstance : mg "isinstance" = none) (z_int : mg "int" = none) (z_bool : mg "bool" = none) : FnOk P w K mg base CX0 1 f fd ["value"] spWhole := by
  refine F.ok scIsWhole (fun vs H Q E h => ?_) (fun cdv A outer s H vs Q E hr h => ?_)
  · obtain ⟨i, rfl, _⟩ := h
    rfl
  obtain ⟨i, rfl, q⟩ := h
  refine ⟨_, (pss_one (ps_ret (pe_and (pe_callB call_isi (by rfl) z_isinstance (by decide +kernel) (pa_cons (pv 0) (pa_cons (pe_bltn (v := .ty "int") (u := .type "int") (by rfl) z_int (by decide +kernel) rfl) pa_nil))) (pe_one (pe_not (pe_callB call_isi (by rfl) z_isinstance (by decide +kernel) (pa_cons (pv 0) (pa_cons (pe_bltn (v := .ty "bool") (u := .type "bool") (by rfl) z_bool (by decide +kernel) rfl) pa_nil)))))))), ?_⟩
  refine ⟨_, rfl, _, _, _, _, true, rfl, .ty "int", .base (.int i), kit_ty (by decide +kernel), true, rfl, ?_⟩
  refine ⟨_, rfl, _, _, _, _, false, rfl, .ty "bool", .base (.int i), kit_ty (by decide +kernel), false, rfl, ?_⟩
  exact q
def spBetween : Sp := fun vs H Q _ => ∃ v lo hi : Int, vs = [.int v, .int lo, .int hi] ∧ Q (.bl (decide (lo ≤ v) && decide (v ≤ hi))) H
theorem ok_is_between {f g : Addr} {fd gd : FuncData} (F : Fun K "is_between" "is_between" sIsBetween f fd) (GIsWhole : FnOk P w K mg base CX0 1 g gd ["value"] spWhole) (AIsWhole : At K mg "is_whole" g gd ["value"]) : FnOk P w K mg base CX0 2 f fd ["value", "low", "high"] spBetween := by
  refine F.ok scIsBetween (fun vs H Q E h => ?_) (fun cdv A outer s H vs Q E hr h => ?_)
  · obtain ⟨i, _, _, rfl, _⟩ := h
    rfl
  obtain ⟨v, lo, hi, rfl, q⟩ := h
  refine ⟨_, (pss_one (ps_ret (pe_and (pe_call GIsWhole (hr.mono (by decide)) rfl AIsWhole.m AIsWhole.kp AIsWhole.b .nil pass0 (pa_cons (pv 0) pa_nil)) (pe_one (pe_chain op_le op_le (pv 1) (pv 0) (pv 2)))))), ?_⟩
  refine ⟨_, rfl, v, rfl, true, rfl, ?_⟩
  refine ⟨_, rfl, _, rfl, _, _, rfl, rfl, _, rfl, ?_⟩
  by_cases h1 : lo ≤ v
  · rw [decide_eq_true h1] at q ⊢
    exact ⟨_, rfl, _, _, rfl, rfl, q⟩
  · rw [decide_eq_false h1] at q ⊢
    exact q
def spCheckSize : Sp := fun vs H Q _ => ∃ n : Int, vs = [.int n] ∧ 1 ≤ n ∧ n ≤ 10 ^ 30 ∧ Q .non H
theorem ok_check_size {f g : Addr} {fd gd : FuncData} {t : Tok} (F : Fun K "check_size" "check_size" sCheckSize f fd) (GIsBetween : FnOk P w K mg base CX0 2 g gd ["value", "low", "high"] spBetween) (AIsBetween : At K mg "is_between" g gd ["value", "low", "high"]) (g_MOST_ENTRIES : mg "MOST_ENTRIES" = some (.int 1000000000000000000000000000000 t)) : FnOk P w K mg base CX0 3 f fd ["size"] spCheckSize := by
  refine F.ok scCheckSize (fun vs H Q E h => ?_) (fun cdv A outer s H vs Q E hr h => ?_)
  · obtain ⟨i, rfl, _⟩ := h
    rfl
  obtain ⟨n, rfl, h1, h2, q⟩ := h
  refine ⟨_, (pss_one (ps_if (pt_not (pt_val (pe_call GIsBetween (hr.mono (by decide)) rfl AIsBetween.m AIsBetween.kp AIsBetween.b .nil pass0 (pa_cons (pv 0) (pa_cons pe_int (pa_cons (pe_glob (v := .int 1000000000000000000000000000000) rfl g_MOST_ENTRIES ⟨_, rfl⟩) pa_nil))))))
    (pss_one ps_never)
    pss_nil)), ?_⟩
  refine ⟨_, rfl, n, 1, 1000000000000000000000000000000, rfl, _, rfl, ?_⟩
  rw [decide_eq_true h1, decide_eq_true (show n ≤ 1000000000000000000000000000000 from h2)]
  exact q
end
end LT

namespace LT
open PySem PySem.Spec PyProof.Rows L2
theorem shr_cast (n k : Nat) : (n : Int) / 2 ^ ((k : Nat) : Int).toNat = ((n / 2 ^ k : Nat) : Int) := by
  rw [Int.toNat_natCast]
  have : (2 : Int) ^ k = ((2 ^ k : Nat) : Int) := (Int.natCast_pow 2 k).symm
  rw [this]
  exact (Int.natCast_ediv _ _).symm
theorem shl_cast (n k : Nat) : (n : Int) * 2 ^ ((k : Nat) : Int).toNat = ((n * 2 ^ k : Nat) : Int) := by
  rw [Int.toNat_natCast]
  have : (2 : Int) ^ k = ((2 ^ k : Nat) : Int) := (Int.natCast_pow 2 k).symm
  rw [this]
  exact (Int.natCast_mul _ _).symm
/-- the counts by level -/
def kc (h n : Nat) : List Nat := if c : n = 0 ∨ h = 0 then [] else n :: kc h (n / 2 ^ h)
termination_by n
decreasing_by exact Nat.div_lt_self (by omega) (Nat.one_lt_two_pow (by omega))
theorem kc_zero (h : Nat) : kc h 0 = [] := by rw [kc]; simp
theorem kc_step {h n : Nat} (hh : 1 ≤ h) (hn : 1 ≤ n) : kc h n = n :: kc h (n / 2 ^ h) := by rw [kc]; rw [dif_neg (by omega)]
theorem kc_get {h : Nat} (hh : 1 ≤ h) : ∀ (i n : Nat), (kc h n)[i]? = if 1 ≤ n / 2 ^ (i * h) then some (n / 2 ^ (i * h)) else none
  | 0, n => by
    by_cases hn : 1 ≤ n
    · rw [kc_step hh hn, Nat.zero_mul, Nat.pow_zero, Nat.div_one, if_pos hn]; rfl
    · have : n = 0 := by omega
      subst this; rw [kc_zero]; simp
  | i + 1, n => by
    by_cases hn : 1 ≤ n
    · rw [kc_step hh hn, List.getElem?_cons_succ, kc_get hh i, Nat.div_div_eq_div_mul, ← Nat.pow_add, show h + i * h = (i + 1) * h by rw [Nat.succ_mul]; omega]
    · have : n = 0 := by omega
      subst this; rw [kc_zero]; simp
theorem kc_len {h : Nat} (hh : 1 ≤ h) : ∀ (k n : Nat), n < 2 ^ k → (kc h n).length ≤ k
  | 0, n, c => by
    have : n = 0 := by simp at c; omega
    subst this; rw [kc_zero]; exact Nat.le_refl _
  | k + 1, n, c => by
    by_cases hn : 1 ≤ n
    · rw [kc_step hh hn, List.length_cons]
      have := kc_len hh k (n / 2 ^ h) (by
        rw [Nat.pow_succ] at c
        have h2 : 2 ^ 1 ≤ 2 ^ h := Nat.pow_le_pow_right (by decide) hh
        have := Nat.div_le_div_left (a := n) h2 (by decide)
        omega)
      omega
    · have : n = 0 := by omega
      subst this; rw [kc_zero]; exact Nat.zero_le _
theorem kc_len30 {h n : Nat} (hh : 1 ≤ h) (h30 : n ≤ 10 ^ 30) : (kc h n).length ≤ 100 := kc_len hh 100 n (Nat.lt_of_le_of_lt h30 (by decide))
theorem kc_pos {h : Nat} : ∀ (n c : Nat), c ∈ kc h n → 1 ≤ c := by
  intro n
  induction n using Nat.strongRecOn with
  | ind n ih =>
    intro c hc
    rw [kc] at hc
    by_cases k : n = 0 ∨ h = 0
    · rw [dif_pos k] at hc; cases hc
    · rw [dif_neg k] at hc
      rcases List.mem_cons.mp hc with z | z
      · omega
      · exact ih _ (Nat.div_lt_self (by omega) (Nat.one_lt_two_pow (by omega))) c z
/-- how many tiles keep c nodes -/
def tf (h c : Nat) : Nat := (c - 1) / 2 ^ h + 1
def tAll (h n : Nat) : Nat := ((kc h n).map (tf h)).sum
def tFull (h n : Nat) : Nat := ((kc h n).map fun c => c / 2 ^ h).sum
/-- a tile's width -/
def tw (n h l k : Nat) : Nat := min (n / 2 ^ (l * h) - k * 2 ^ h) (2 ^ h)
theorem intsum_cast : ∀ l : List Nat, (l.map fun x => ((x : Nat) : Int)).sum = ((l.sum : Nat) : Int)
  | [] => rfl
  | x :: l => by
    rw [List.map_cons, List.sum_cons, List.sum_cons, intsum_cast l]
    omega
section
variable {P : Program} {w : World} {K : PySem.W.Frag} {mg : Str → Option Value} {base : Heap}
def spCheckHeight : Sp := fun vs H Q _ => ∃ n : Int, vs = [.int n] ∧ 1 ≤ n ∧ n ≤ 30 ∧ Q .non H
theorem ok_check_height {f g : Addr} {fd gd : FuncData} {t : Tok} (F : Fun K "check_height" "check_height" sCheckHeight f fd) (GIsBetween : FnOk P w K mg base CX0 2 g gd ["value", "low", "high"] spBetween) (AIsBetween : At K mg "is_between" g gd ["value", "low", "high"]) (g_MOST_HEIGHT : mg "MOST_HEIGHT" = some (.int 30 t)) : FnOk P w K mg base CX0 3 f fd ["height"] spCheckHeight := by
  refine F.ok scCheckHeight (fun vs H Q E h => ?_) (fun cdv A outer s H vs Q E hr h => ?_)
  · obtain ⟨i, rfl, _⟩ := h
    rfl
  obtain ⟨n, rfl, h1, h2, q⟩ := h
  refine ⟨_, (pss_one (ps_if (pt_not (pt_val (pe_call GIsBetween (hr.mono (by decide)) rfl AIsBetween.m AIsBetween.kp AIsBetween.b .nil pass0 (pa_cons (pv 0) (pa_cons pe_int (pa_cons (pe_glob (v := .int 30) rfl g_MOST_HEIGHT ⟨_, rfl⟩) pa_nil))))))
    (pss_one ps_never)
    pss_nil)), ?_⟩
  refine ⟨_, rfl, n, 1, 30, rfl, _, rfl, ?_⟩
  rw [decide_eq_true h1, decide_eq_true h2]
  exact q
def spNumberFrom : Sp := fun vs H Q _ => ∃ n l : Int, vs = [.int n, .int l] ∧ l ≤ n ∧ Q .non H
theorem ok_check_number_from {f g : Addr} {fd gd : FuncData} (F : Fun K "check_number_from" "check_number_from" sCheckNumberFrom f fd) (GIsWhole : FnOk P w K mg base CX0 1 g gd ["value"] spWhole) (AIsWhole : At K mg "is_whole" g gd ["value"]) : FnOk P w K mg base CX0 2 f fd ["number", "least"] spNumberFrom := by
  refine F.ok scCheckNumberFrom (fun vs H Q E h => ?_) (fun cdv A outer s H vs Q E hr h => ?_)
  · obtain ⟨_, _, rfl, _⟩ := h
    rfl
  obtain ⟨n, l, rfl, h1, q⟩ := h
  refine ⟨_, (pss_one (ps_if (PW.pt (pw_or (pt_not (pt_val (pe_call GIsWhole (hr.mono (by decide)) rfl AIsWhole.m AIsWhole.kp AIsWhole.b .nil pass0 (pa_cons (pv 0) pa_nil)))) (pw_or1 (pt_cmpR op_lt (pv 0) (pv 1) (nomark _)))))
    (pss_one ps_never)
    pss_nil)), ?_⟩
  refine ⟨_, rfl, n, rfl, true, rfl, _, rfl, _, rfl, _, _, rfl, rfl, false, congrArg V.bl (decide_eq_false (by omega)), ?_⟩
  exact q
def spKept : Sp := fun vs H Q _ => ∃ (n h : Nat), vs = [.int n, .int h] ∧ n ≤ 10 ^ 30 ∧ 1 ≤ h ∧ ∀ (H' : Hp) (p : Addr), Same H H' → H p = none → H' p = some (.lst ((kc h n).map fun c : Nat => V.int (c : Int))) → Q (.ref p) H'
theorem ok_kept_counts {f : Addr} {fd : FuncData} (F : Fun K "_kept_counts" "_kept_counts" sKeptCounts f fd) : FnOk P w K mg base CX0 1 f fd ["size", "height"] spKept := by
  refine F.ok scKeptCounts (fun vs H Q E h => ?_) (fun cdv A outer s H vs Q E hr h => ?_)
  · obtain ⟨_, _, rfl, _⟩ := h
    rfl
  obtain ⟨n, h, rfl, h30, h1, q⟩ := h
  refine ⟨_, (pss_cons (ps_set (i := 2) scKeptCounts.nd rfl (Or.inl rfl) (pe_lst pa_nil))
    (pss_cons (ps_set (i := 3) scKeptCounts.nd rfl (Or.inl rfl) (pv 0))
    (pss_cons (ps_while PassesOwn.never (pt_cmpR op_gt (pv 3) pe_int (nomark _))
    (pss_cons (ps_expr (pe_bm PySem.F.plainAttrs_list PySem.F.slot_list_append PySem.F.type_list_append mt_append (pv 2) (pa_cons (pv 3) pa_nil)))
    (pss_one (ps_set (i := 3) scKeptCounts.nd rfl (Or.inl rfl) (pe_op op_shr (pv 3) (pv 1))))))
    (pss_one (ps_ret (pv 2)))))), ?_⟩
  refine ⟨Nat.zero_le _, fun fa nf => ?_⟩
  refine ⟨_, rfl, ?_⟩
  refine ⟨fun mu σ H' => ∃ (c : Nat) (done : List Nat), σ = [some (.int n), some (.int h), some (.ref fa), some (.int (c : Int))] ∧ Same H H' ∧ H' fa = some (.lst (done.map fun c : Nat => V.int (c : Int))) ∧ done ++ kc h c = kc h n ∧ mu = c + 0, ⟨n, n, [], rfl, same_upd nf, upd_same, rfl, rfl⟩, ?_⟩
  rintro m σ H1 ⟨c, done, rfl, sm, hf, hd, hm⟩
  refine ⟨_, rfl, _, _, rfl, rfl, _, rfl, ite2 (fun c1 => ?_) (fun c1 => ?_)⟩
  · have c2 : (c : Int) > 0 := of_decide_eq_true c1
    have st := kc_step h1 (show 1 ≤ c by omega)
    have dl : done.length ≤ 100 := by
      have e := congrArg List.length hd
      have := kc_len30 h1 h30
      rw [List.length_append] at e
      omega
    refine ⟨_, fun σ' H' h => h, _, rfl, .inl ⟨rfl, _, SqL.of hf⟩, _, rfl, fa, _, _, rfl, rfl, hf, szlt (by rw [List.length_map]; omega), ?_⟩
    refine ⟨_, rfl, _, rfl, _, _, rfl, rfl, Int.natCast_nonneg _, ?_⟩
    dsimp only
    rw [shr_cast]
    have lt : c / 2 ^ h < c := Nat.div_lt_self (by omega) (Nat.one_lt_two_pow (by omega))
    refine ⟨c / 2 ^ h, by omega, c / 2 ^ h, done ++ [c], rfl, ?_, ?_, ?_, rfl⟩
    · exact fun a o k => by rw [upd_ne (ne_of_none k nf)]; exact sm _ _ k
    · rw [List.map_append]; exact upd_same
    · rw [← hd, st, List.append_assoc]; rfl
  · have c2 : ¬ (c : Int) > 0 := of_decide_eq_false (Bool.eq_false_iff.mpr c1)
    have c0 : c = 0 := by omega
    subst c0
    rw [kc_zero, List.append_nil] at hd
    rw [hd] at hf
    exact ⟨_, rfl, q H1 fa sm nf hf⟩
def spTilesFor : Sp := fun vs H Q _ => ∃ (c h : Nat), vs = [.int c, .int h] ∧ 1 ≤ c ∧ Q (.int ((tf h c : Nat) : Int)) H
theorem ok_tiles_for {f : Addr} {fd : FuncData} (F : Fun K "_tiles_for" "_tiles_for" sTilesFor f fd) : FnOk P w K mg base CX0 1 f fd ["count", "height"] spTilesFor := by
  refine F.ok scTilesFor (fun vs H Q E h => ?_) (fun cdv A outer s H vs Q E hr h => ?_)
  · obtain ⟨_, _, rfl, _⟩ := h
    rfl
  obtain ⟨c, h, rfl, h1, q⟩ := h
  refine ⟨_, (pss_one (ps_ret (pe_op op_add (pe_op op_shr (pe_op op_sub (pv 0) pe_int) (pv 1)) pe_int))), ?_⟩
  refine ⟨_, rfl, _, _, rfl, rfl, _, rfl, _, _, rfl, rfl, Int.natCast_nonneg _, ?_⟩
  dsimp only
  rw [show (c : Int) - 1 = ((c - 1 : Nat) : Int) by omega, shr_cast]
  refine ⟨_, _, rfl, rfl, ?_⟩
  exact q
def spTileCount : Sp := fun vs H Q _ => ∃ (n h : Nat), vs = [.int n, .int h] ∧ 1 ≤ n ∧ n ≤ 10 ^ 30 ∧ 1 ≤ h ∧ h ≤ 30 ∧ ∀ (H' : Hp) (p : Addr), Same H H' → H p = none → Nd H' (.ref p) (tAll h n, tFull h n) → Q (.ref p) H'
theorem ok_tile_count {f g1 g2 g3 g4 : Addr} {fd d1 d2 d3 d4 : FuncData} (F : Fun K "tile_count" "tile_count" sTileCount f fd)
    (GCheckSize : FnOk P w K mg base CX0 3 g1 d1 ["size"] spCheckSize) (ACheckSize : At K mg "check_size" g1 d1 ["size"])
    (GCheckHeight : FnOk P w K mg base CX0 3 g2 d2 ["height"] spCheckHeight) (ACheckHeight : At K mg "check_height" g2 d2 ["height"])
    (GKeptCounts : FnOk P w K mg base CX0 1 g3 d3 ["size", "height"] spKept) (AKeptCounts : At K mg "_kept_counts" g3 d3 ["size", "height"])
    (GTilesFor : FnOk P w K mg base CX0 1 g4 d4 ["count", "height"] spTilesFor) (ATilesFor : At K mg "_tiles_for" g4 d4 ["count", "height"])
    (z_sum : mg "sum" = none) : FnOk P w K mg base CX0 4 f fd ["size", "height"] spTileCount := by
  refine F.ok scTileCount (fun vs H Q E h => ?_) (fun cdv A outer s H vs Q E hr h => ?_)
  · obtain ⟨_, _, rfl, _⟩ := h
    rfl
  obtain ⟨n, h, rfl, n1, n30, h1, h30, q⟩ := h
  refine ⟨_, (pss_cons (ps_expr (pe_call GCheckSize (hr.mono (by decide)) rfl ACheckSize.m ACheckSize.kp ACheckSize.b .nil pass0 (pa_cons (pv 0) pa_nil)))
    (pss_cons (ps_expr (pe_call GCheckHeight (hr.mono (by decide)) rfl ACheckHeight.m ACheckHeight.kp ACheckHeight.b .nil pass0 (pa_cons (pv 1) pa_nil)))
    (pss_cons (ps_set (i := 2) scTileCount.nd rfl (Or.inl rfl) (pe_call GKeptCounts (hr.mono (by decide)) rfl AKeptCounts.m AKeptCounts.kp AKeptCounts.b .nil pass0 (pa_cons (pv 0) (pa_cons (pv 1) pa_nil))))
    (pss_one (ps_ret (pe_tup (pa_cons (pe_callB (cr_sum rfl) (by rfl) z_sum (by decide +kernel) (pa_cons (pe_lc (own := [("count", 3)]) rfl scTileCount.nd (pi_list (pv 2)) (blkOk_by (N := ["size", "height", "counts", "count"]) (sc := defScope sTileCount) (by decide +kernel)) (fun _ _ _ _ _ => (pg_name (i := 3) scTileCount.nd rfl (Or.inl rfl))) (fun _ _ _ _ _ => pts_nil) (fun _ _ _ _ _ => (pe_call GTilesFor (hr.mono (by decide)) rfl ATilesFor.m ATilesFor.kp ATilesFor.b .nil pass0 (pa_cons (pv 3) (pa_cons (pv 1) pa_nil))))) pa_nil)) (pa_cons (pe_callB (cr_sum rfl) (by rfl) z_sum (by decide +kernel) (pa_cons (pe_lc (own := [("count", 3)]) rfl scTileCount.nd (pi_list (pv 2)) (blkOk_by (N := ["size", "height", "counts", "count"]) (sc := defScope sTileCount) (by decide +kernel)) (fun _ _ _ _ _ => (pg_name (i := 3) scTileCount.nd rfl (Or.inl rfl))) (fun _ _ _ _ _ => pts_nil) (fun _ _ _ _ _ => (pe_op op_shr (pv 3) (pv 1)))) pa_nil)) pa_nil)))))))), ?_⟩
  refine ⟨_, rfl, _, rfl, by omega, by omega, ?_⟩
  refine ⟨_, rfl, _, rfl, by omega, by omega, ?_⟩
  refine ⟨_, rfl, _, rfl, n, h, rfl, n30, h1, fun H1 pc s1 npc hpc => ?_⟩
  have L100 := kc_len30 h1 n30
  have Lp := fun c => kc_pos (h := h) n c
  have eA : tAll h n = ((kc h n).map (tf h)).sum := rfl
  have eF : tFull h n = ((kc h n).map fun c => c / 2 ^ h).sum := rfl
  rw [eA, eF] at q
  generalize kc h n = L at q hpc L100 Lp
  refine ⟨_, rfl, pc, rfl, ⟨_, SqL.of hpc⟩, fun D nD => lc_list (xs := L.map fun c : Nat => V.int (c : Int)) (fun i H' => Same H1 H' ∧ H' D = some (.lst ((((L.take i).map (tf h)).map fun x : Nat => ((x : Nat) : Int)).map V.int))) ⟨same_upd nD, upd_same⟩ (fun i H' _ ⟨k, _⟩ => SqL.of (k _ _ hpc)) ?_ ?_⟩
  · rintro i x H2 hi ⟨s2, hD⟩
    rw [List.getElem?_map] at hi
    obtain ⟨c, hc, rfl⟩ := Option.map_eq_some_iff.mp hi
    have cp := Lp c (List.mem_of_getElem? hc)
    have il := (List.getElem?_eq_some_iff.mp hc).1
    refine ⟨rfl, ?_⟩
    refine ⟨_, rfl, _, rfl, c, h, rfl, cp, ?_⟩
    refine ⟨_, hD, szlt (by rw [List.length_map, List.length_map, List.length_map, List.length_take]; omega), ?_, ?_⟩
    · exact fun a o k => by rw [upd_ne (ne_of_none k nD)]; exact s2 _ _ k
    · rw [take_more hc, List.map_append, List.map_append, List.map_append]
      exact upd_same
  rintro H2 ⟨s2, hD⟩
  have e1 : L.take (L.map fun c : Nat => V.int (c : Int)).length = L := by rw [List.length_map]; exact List.take_length
  rw [e1] at hD
  refine ⟨D, _, rfl, SqL.of hD, ?_⟩
  rw [intsum_cast]
  have hpc2 := s2 _ _ hpc
  refine ⟨_, rfl, pc, rfl, ⟨_, SqL.of hpc2⟩, fun D2 nD2 => lc_list (xs := L.map fun c : Nat => V.int (c : Int)) (fun i H' => Same H2 H' ∧ H' D2 = some (.lst ((((L.take i).map (fun c => c / 2 ^ h)).map fun x : Nat => ((x : Nat) : Int)).map V.int))) ⟨same_upd nD2, upd_same⟩ (fun i H' _ ⟨k, _⟩ => SqL.of (k _ _ hpc2)) ?_ ?_⟩
  · rintro i x H3 hi ⟨s3, hD3⟩
    rw [List.getElem?_map] at hi
    obtain ⟨c, hc, rfl⟩ := Option.map_eq_some_iff.mp hi
    have il := (List.getElem?_eq_some_iff.mp hc).1
    refine ⟨rfl, ?_⟩
    refine ⟨_, rfl, _, rfl, _, _, rfl, rfl, Int.natCast_nonneg _, ?_⟩
    dsimp only
    rw [shr_cast]
    refine ⟨_, hD3, szlt (by rw [List.length_map, List.length_map, List.length_map, List.length_take]; omega), ?_, ?_⟩
    · exact fun a o k => by rw [upd_ne (ne_of_none k nD2)]; exact s3 _ _ k
    · rw [take_more hc, List.map_append, List.map_append, List.map_append]
      exact upd_same
  rintro H3 ⟨s3, hD3⟩
  rw [e1] at hD3
  refine ⟨D2, _, rfl, SqL.of hD3, ?_⟩
  rw [intsum_cast]
  refine ⟨(by show 2 ≤ sizeLine; decide), fun t nt => ?_⟩
  have st := same_upd (o := .tup [.int (((L.map (tf h)).sum : Nat) : Int), .int (((L.map fun c => c / 2 ^ h).sum : Nat) : Int)]) nt
  refine q _ t (s1.trans (s2.trans (s3.trans st))) ((s1.trans (s2.trans s3)).free nt) ⟨t, rfl, upd_same⟩
def spTileWidth : Sp := fun vs H Q _ => ∃ (n h l k : Nat), vs = [.int n, .int h, .int l, .int k] ∧ 1 ≤ n ∧ n ≤ 10 ^ 30 ∧ 1 ≤ h ∧ h ≤ 30 ∧ k < 2 ^ 200 ∧ ∀ (H' : Hp), Same H H' → Q (.int ((tw n h l k : Nat) : Int)) H'
theorem ok_tile_width {f g1 g2 g3 g4 : Addr} {fd d1 d2 d3 d4 : FuncData} (F : Fun K "tile_width" "tile_width" sTileWidth f fd)
    (GCheckSize : FnOk P w K mg base CX0 3 g1 d1 ["size"] spCheckSize) (ACheckSize : At K mg "check_size" g1 d1 ["size"])
    (GCheckHeight : FnOk P w K mg base CX0 3 g2 d2 ["height"] spCheckHeight) (ACheckHeight : At K mg "check_height" g2 d2 ["height"])
    (GKeptCounts : FnOk P w K mg base CX0 1 g3 d3 ["size", "height"] spKept) (AKeptCounts : At K mg "_kept_counts" g3 d3 ["size", "height"])
    (GCheckNumberFrom : FnOk P w K mg base CX0 2 g4 d4 ["number", "least"] spNumberFrom) (ACheckNumberFrom : At K mg "check_number_from" g4 d4 ["number", "least"])
    (z_len : mg "len" = none) (z_max : mg "max" = none) (z_min : mg "min" = none) : FnOk P w K mg base CX0 4 f fd ["size", "height", "level", "number"] spTileWidth := by
  refine F.ok scTileWidth (fun vs H Q E h => ?_) (fun cdv A outer s H vs Q E hr h => ?_)
  · obtain ⟨_, _, _, _, rfl, _⟩ := h
    rfl
  obtain ⟨n, h, l, k, rfl, n1, n30, h1, h30, k200, q⟩ := h
  refine ⟨_, (pss_cons (ps_expr (pe_call GCheckSize (hr.mono (by decide)) rfl ACheckSize.m ACheckSize.kp ACheckSize.b .nil pass0 (pa_cons (pv 0) pa_nil)))
    (pss_cons (ps_expr (pe_call GCheckHeight (hr.mono (by decide)) rfl ACheckHeight.m ACheckHeight.kp ACheckHeight.b .nil pass0 (pa_cons (pv 1) pa_nil)))
    (pss_cons (ps_expr (pe_call GCheckNumberFrom (hr.mono (by decide)) rfl ACheckNumberFrom.m ACheckNumberFrom.kp ACheckNumberFrom.b .nil pass0 (pa_cons (pv 2) (pa_cons pe_int pa_nil))))
    (pss_cons (ps_expr (pe_call GCheckNumberFrom (hr.mono (by decide)) rfl ACheckNumberFrom.m ACheckNumberFrom.kp ACheckNumberFrom.b .nil pass0 (pa_cons (pv 3) (pa_cons pe_int pa_nil))))
    (pss_cons (ps_set (i := 4) scTileWidth.nd rfl (Or.inl rfl) (pe_call GKeptCounts (hr.mono (by decide)) rfl AKeptCounts.m AKeptCounts.kp AKeptCounts.b .nil pass0 (pa_cons (pv 0) (pa_cons (pv 1) pa_nil))))
    (pss_cons (ps_if (pt_cmpR op_ge (pv 2) (pe_callB call_len_seq (by rfl) z_len PySem.boot_len (pa_cons (pv 4) pa_nil)) (nomark _))
    (pss_one (ps_ret pe_int))
    pss_nil)
    (pss_cons (ps_set (i := 5) scTileWidth.nd rfl (Or.inl rfl) (pe_op op_sub (pe_ix ix_list (pv 4) (pv 2) (fun _ _ => rfl)) (pe_op op_shlW (pv 3) (pv 1))))
    (pss_one (ps_ret (pe_callB (call_max2 rfl) (by rfl) z_max (by decide +kernel) (pa_cons pe_int (pa_cons (pe_callB (call_min2 rfl) (by rfl) z_min (by decide +kernel) (pa_cons (pv 5) (pa_cons (pe_op op_shl pe_int (pv 1)) pa_nil))) pa_nil)))))))))))), ?_⟩
  refine ⟨_, rfl, _, rfl, by omega, by omega, ?_⟩
  refine ⟨_, rfl, _, rfl, by omega, by omega, ?_⟩
  refine ⟨_, rfl, _, _, rfl, Int.natCast_nonneg _, ?_⟩
  refine ⟨_, rfl, _, _, rfl, Int.natCast_nonneg _, ?_⟩
  refine ⟨_, rfl, _, rfl, n, h, rfl, n30, h1, fun H1 pc s1 npc hpc => ?_⟩
  have L100 := kc_len30 h1 n30
  have Lg := kc_get h1 l n
  generalize kc h n = L at hpc L100 Lg
  refine ⟨_, rfl, _, rfl, pc, _, rfl, .inl (SqL.of hpc), _, _, rfl, rfl, _, rfl, ite2 (fun c1 => ?_) (fun c1 => ?_)⟩
  · have c2 : (l : Int) ≥ ((L.map fun c : Nat => V.int (c : Int)).length : Int) := of_decide_eq_true c1
    rw [List.length_map] at c2
    rw [List.getElem?_eq_none (by omega)] at Lg
    have z : n / 2 ^ (l * h) = 0 := by
      by_cases y : 1 ≤ n / 2 ^ (l * h)
      · rw [if_pos y] at Lg; cases Lg
      · exact Nat.eq_zero_of_not_pos y
    have e : tw n h l k = 0 := by unfold tw; rw [z, Nat.zero_sub, Nat.zero_min]
    have q1 := q H1 s1
    rw [e] at q1
    exact q1
  · have c2 : ¬ (l : Int) ≥ ((L.map fun c : Nat => V.int (c : Int)).length : Int) := of_decide_eq_false (Bool.eq_false_iff.mpr c1)
    rw [List.length_map] at c2
    have ll : l < L.length := by omega
    have y : 1 ≤ n / 2 ^ (l * h) := by
      by_cases y : 1 ≤ n / 2 ^ (l * h)
      · exact y
      · rw [if_neg y, List.getElem?_eq_getElem ll] at Lg; cases Lg
    rw [if_pos y] at Lg
    have Lv : (L.map fun c : Nat => V.int (c : Int))[l]? = some (.int ((n / 2 ^ (l * h) : Nat) : Int)) := by rw [List.getElem?_map, Lg]; rfl
    have e := q H1 s1
    unfold tw at e
    generalize n / 2 ^ (l * h) = c at e Lv
    refine ⟨_, rfl, _, rfl, pc, _, _, _, rfl, rfl, SqL.of hpc, atI_nat Lv, ?_⟩
    refine ⟨_, rfl, _, rfl, _, _, rfl, rfl, shl_ok (n := 200) (by omega) (by omega), _, _, rfl, rfl, ?_⟩
    dsimp only
    rw [shl_cast]
    refine ⟨_, rfl, _, rfl, _, _, rfl, rfl, ⟨Int.natCast_nonneg _, by omega, by decide⟩, _, _, rfl, _, _, rfl, ?_⟩
    have e1 : (1 : Int) * 2 ^ ((h : Nat) : Int).toNat = ((2 ^ h : Nat) : Int) := by rw [Int.one_mul, Int.toNat_natCast]; exact (Int.natCast_pow 2 _).symm
    rw [e1]
    generalize k * 2 ^ h = u at e ⊢
    generalize 2 ^ h = m at e ⊢
    have e2 : (if (if ((m : Nat) : Int) < (c : Int) - (u : Int) then ((m : Nat) : Int) else (c : Int) - (u : Int)) > 0 then (if ((m : Nat) : Int) < (c : Int) - (u : Int) then ((m : Nat) : Int) else (c : Int) - (u : Int)) else 0) = ((min (c - u) m : Nat) : Int) := by
      split <;> split <;> omega
    rw [e2]
    exact e
end
end LT

namespace LT
open PySem PySem.Spec PyProof.Rows L2
theorem bits_nat (k : Nat) : Builtin.Int.intBits (k : Int) = if k = 0 then 0 else k.log2 + 1 := by
  unfold Builtin.Int.intBits
  by_cases h : k = 0
  · subst h; rfl
  · rw [if_neg h, if_neg (by simpa using h)]
    rfl
theorem bits_lb {m : Nat} (h : 1 ≤ m) : Builtin.Int.intBits ((m - 1 : Nat) : Int) = lb m := by
  rw [bits_nat]
  unfold lb
  by_cases k : m ≤ 1
  · rw [if_pos k, if_pos (by omega)]
  · rw [if_neg k, if_neg (by omega)]
theorem lb100 {m : Nat} (h : m ≤ 10 ^ 30) : lb m ≤ 100 := lb_le (Nat.le_trans h (by decide))
theorem fmod_of_dvd {a b : Nat} (h : a ∣ b) : Int.fmod (b : Int) (a : Int) = 0 := by
  rw [Int.fmod_eq_emod_of_nonneg _ (Int.natCast_nonneg _)]
  exact Int.emod_eq_zero_of_dvd (Int.natCast_dvd_natCast.mpr h)
end LT

namespace LT
open PySem PySem.Spec PyProof.Rows L2
section
variable {P : Program} {w : World} {K : PySem.W.Frag} {mg : Str → Option Value} {base : Heap}
def spBag : Sp := fun vs H Q _ => ∃ c : Int, vs = [.int c] ∧ ∀ (H' : Hp) (p : Addr), Same H H' → H p = none → BagAt H' p → Q (.ref p) H'
theorem ok_law_bag {f : Addr} {fd : FuncData} (F : Fun K "_law_bag" "_law_bag" sLawBag f fd) (z_max : mg "max" = none) : FnOk P w K mg base CX0 1 f fd ["cell"] spBag := by
  refine F.ok scLawBag (fun vs H Q E h => ?_) (fun cdv A outer s H vs Q E hr h => ?_)
  · obtain ⟨_, rfl, _⟩ := h
    rfl
  obtain ⟨c, rfl, q⟩ := h
  refine ⟨_, (pss_one (ps_ret (pe_lst (pa_cons (pe_callB (call_max2 rfl) (by rfl) z_max (by decide +kernel) (pa_cons pe_int (pa_cons (pe_op op_sub (pv 0) (pe_op op_pow pe_int pe_int)) pa_nil))) (pa_cons (pv 0) (pa_cons pe_int pa_nil)))))), ?_⟩
  refine ⟨_, rfl, _, _, rfl, rfl, ⟨by decide, by decide, by decide⟩, _, _, rfl, rfl, _, _, rfl, _, rfl, (by show 3 ≤ sizeLine; decide), fun p np => ?_⟩
  exact q _ p (same_upd np) np ⟨_, _, _, upd_same⟩
theorem fm0 (x : Int) {m : Int} (h : 0 < m) : 0 ≤ x.fmod m := by
  rw [Int.fmod_eq_emod_of_nonneg _ (by omega)]
  exact Int.emod_nonneg _ (by omega)
theorem fm1 (x : Int) {m : Int} (h : 0 < m) : x.fmod m < m := by
  rw [Int.fmod_eq_emod_of_nonneg _ (by omega)]
  exact Int.emod_lt_of_pos _ h
def spPick : Sp := fun vs H Q _ => ∃ (b : Addr) (many : Int), vs = [.ref b, .int many] ∧ 0 < many ∧ many.natAbs < 2 ^ 250 ∧ BagAt H b ∧
  ∀ (r : Int) (H' : Hp), 0 ≤ r → r < many → (∀ a, a ≠ b → H' a = H a) → BagAt H' b → Q (.int r) H'
theorem ok_law_pick {f : Addr} {fd : FuncData} (F : Fun K "_law_pick" "_law_pick" sLawPick f fd) (z_int : mg "int" = none) : FnOk P w K mg base CX0 1 f fd ["bag", "many"] spPick := by
  refine F.ok scLawPick (fun vs H Q E h => ?_) (fun cdv A outer s H vs Q E hr h => ?_)
  · obtain ⟨_, _, rfl, _⟩ := h
    rfl
  obtain ⟨b, many, rfl, hm, hm2, ⟨x, y, z, h0⟩, q⟩ := h
  refine ⟨_, (pss_cons (ps_asg (pe_op op_add (pe_ix ix_list (pv 0) pe_int (fun _ _ => rfl)) pe_int) (pg_sub (pv 0) pe_int set_list))
    (pss_cons (ps_if (pt_cmpR op_gt (pe_ix ix_list (pv 0) pe_int (fun _ _ => rfl)) pe_int (nomark _))
    (pss_cons (ps_set (i := 2) scLawPick.nd rfl (Or.inl rfl) (pe_op op_modN (pe_callTy call_int1 (by rfl) z_int (by decide +kernel) (pa_cons (pe_ix ix_list (pv 0) pe_int (fun _ _ => rfl)) pa_nil)) (pv 1)))
    (pss_cons (ps_asg (pe_op op_fdivW (pe_callTy call_int1 (by rfl) z_int (by decide +kernel) (pa_cons (pe_ix ix_list (pv 0) pe_int (fun _ _ => rfl)) pa_nil)) (pv 1)) (pg_sub (pv 0) pe_int set_list))
    (pss_one (ps_ret (pv 2)))))
    pss_nil)
    (pss_cons (ps_par (i := 3) (j := 4) (by rfl) scLawPick.nd rfl rfl (by decide) rfl rfl (pa_cons (pe_callTy call_int1 (by rfl) z_int (by decide +kernel) (pa_cons (pe_ix ix_list (pv 0) pe_int (fun _ _ => rfl)) pa_nil)) (pa_cons (pe_callTy call_int1 (by rfl) z_int (by decide +kernel) (pa_cons (pe_ix ix_list (pv 0) pe_int (fun _ _ => rfl)) pa_nil)) pa_nil)) (by rfl))
    (pss_cons (ps_set (i := 5) scLawPick.nd rfl (Or.inl rfl) (pe_op op_modN (pe_callTy call_int1 (by rfl) z_int (by decide +kernel) (pa_cons (pe_op op_add (pe_op op_add (pe_op op_mul (pe_op op_modN (pv 3) pe_int) pe_int) (pe_op op_mul (pv 4) pe_int)) pe_int) pa_nil)) pe_int))
    (pss_cons (ps_set (i := 6) scLawPick.nd rfl (Or.inl rfl) (pe_op op_modN (pe_callTy call_int1 (by rfl) z_int (by decide +kernel) (pa_cons (pe_op op_add (pe_op op_mul (pv 5) (pv 5)) (pe_op op_mul (pv 4) pe_int)) pa_nil)) pe_int))
    (pss_cons (ps_set (i := 7) scLawPick.nd rfl (Or.inl rfl) (pe_op op_fdivW (pe_callTy call_int1 (by rfl) z_int (by decide +kernel) (pa_cons (pe_op op_add (pe_op op_mul (pv 5) pe_int) (pv 6)) pa_nil)) pe_int))
    (pss_cons (ps_if (pt_cmpR op_gt (pv 1) (pe_op op_pow pe_int pe_int) (nomark _))
    (pss_one (ps_set (i := 7) scLawPick.nd rfl (Or.inl rfl) (pe_op op_add (pe_op op_pow (pv 7) pe_int) (pv 6))))
    pss_nil)
    (pss_one (ps_ret (pe_op op_modN (pe_callTy call_int1 (by rfl) z_int (by decide +kernel) (pa_cons (pv 7) pa_nil)) (pv 1))))))))))), ?_⟩
  refine ⟨_, rfl, b, _, _, _, rfl, rfl, SqL.of h0, atI_nat (j := 2) rfl, _, _, rfl, rfl, _, rfl, b, _, _, 2, rfl, rfl, h0, rfl, ?_⟩
  dsimp only
  have h1 : (upd H b (.lst ([.int x, .int y, .int z].set 2 (.int (z + 1))))) b = some (.lst [.int x, .int y, .int (z + 1)]) := upd_same
  have k1 : ∀ a, a ≠ b → (upd H b (.lst ([.int x, .int y, .int z].set 2 (.int (z + 1))))) a = H a := fun a ha => upd_ne ha
  generalize upd H b (.lst ([.int x, .int y, .int z].set 2 (.int (z + 1)))) = H1 at h1 k1
  refine ⟨_, rfl, b, _, _, _, rfl, rfl, SqL.of h1, atI_nat (j := 0) rfl, _, _, rfl, rfl, _, rfl, ite2 (fun c => ?_) (fun c => ?_)⟩
  · refine ⟨_, rfl, b, _, _, _, rfl, rfl, SqL.of h1, atI_nat (j := 0) rfl, .inl ⟨_, rfl, _, rfl, _, _, rfl, rfl, by omega, ?_⟩⟩
    refine ⟨_, rfl, b, _, _, _, rfl, rfl, SqL.of h1, atI_nat (j := 0) rfl, .inl ⟨_, rfl, _, rfl, _, _, rfl, rfl, wide_div hm hm2 (by decide) (by decide), _, rfl, b, _, _, 0, rfl, rfl, h1, rfl, ?_⟩⟩
    refine ⟨_, rfl, ?_⟩
    exact q _ _ (fm0 x hm) (fm1 x hm) (fun a ha => by rw [upd_ne ha]; exact k1 a ha) ⟨_, _, _, upd_same⟩
  · refine ⟨_, rfl, b, _, _, _, rfl, rfl, SqL.of h1, atI_nat (j := 1) rfl, .inl ⟨_, rfl, _, rfl, b, _, _, _, rfl, rfl, SqL.of h1, atI_nat (j := 2) rfl, .inl ⟨_, rfl, _, _, rfl, ?_⟩⟩⟩
    refine ⟨_, rfl, _, _, rfl, rfl, (by show (2147483629 : Int) ≠ 0; decide), _, _, rfl, rfl, .inr ⟨by decide, by decide⟩, _, rfl, _, _, rfl, rfl, .inr ⟨by decide, by decide⟩, _, _, rfl, rfl, _, _, rfl, rfl, .inl ⟨_, rfl, _, _, rfl, rfl, (by show (2147483647 : Int) ≠ 0; decide), ?_⟩⟩
    dsimp only
    have a0 := fm0 (y.fmod 2147483629 * 48271 + (z + 1) * 69621 + 12345) (m := 2147483647) (by decide)
    have a1 := fm1 (y.fmod 2147483629 * 48271 + (z + 1) * 69621 + 12345) (m := 2147483647) (by decide)
    generalize (y.fmod 2147483629 * 48271 + (z + 1) * 69621 + 12345).fmod 2147483647 = fi at a0 a1
    refine ⟨_, rfl, _, rfl, _, _, rfl, rfl, .inl ⟨by omega, by omega⟩, _, rfl, _, _, rfl, rfl, .inr ⟨by decide, by decide⟩, _, _, rfl, rfl, .inl ⟨_, rfl, _, _, rfl, rfl, (by show (2147483587 : Int) ≠ 0; decide), ?_⟩⟩
    dsimp only
    have b0 := fm0 (fi * fi + (z + 1) * 40692) (m := 2147483587) (by decide)
    have b1 := fm1 (fi * fi + (z + 1) * 40692) (m := 2147483587) (by decide)
    generalize (fi * fi + (z + 1) * 40692).fmod 2147483587 = se at b0 b1
    refine ⟨_, rfl, _, _, rfl, rfl, .inl ⟨by omega, by omega⟩, _, rfl, _, _, rfl, rfl, .inl ⟨_, rfl, _, _, rfl, rfl, wide_div (b := 6) (by decide) (by decide) (by decide) (by decide), ?_⟩⟩
    dsimp only
    have c0 : 0 ≤ (fi * 2147483587 + se) / 32 := by omega
    have c1 : (fi * 2147483587 + se) / 32 < 2 ^ 62 := by omega
    generalize (fi * 2147483587 + se) / 32 = dr at c0 c1
    refine ⟨_, rfl, _, _, rfl, rfl, ⟨by decide, by decide, by decide⟩, _, _, rfl, rfl, _, rfl, ite2 (fun c => ?_) (fun c => ?_)⟩
    · refine ⟨_, rfl, _, _, rfl, rfl, ⟨by decide, by decide, by omega⟩, _, rfl, _, _, rfl, rfl, ?_⟩
      refine ⟨_, rfl, .inl ⟨_, rfl, _, rfl, _, _, rfl, rfl, by omega, ?_⟩⟩
      exact q _ _ (fm0 _ hm) (fm1 _ hm) k1 ⟨_, _, _, h1⟩
    · refine ⟨_, rfl, .inl ⟨_, rfl, _, rfl, _, _, rfl, rfl, by omega, ?_⟩⟩
      exact q _ _ (fm0 _ hm) (fm1 _ hm) k1 ⟨_, _, _, h1⟩
end
end LT

namespace LT
open PySem PySem.Spec PyProof.Rows L2
section
variable {P : Program} {w : World} {K : PySem.W.Frag} {mg : Str → Option Value} {base : Heap}
theorem But.same {b : Addr} {H H1 H2 : Hp} (x : But b H H1) (y : Same H1 H2) : But b H H2 := fun a o n h => y a o (x a o n h)
theorem But.pick {b : Addr} {H H1 H2 : Hp} (x : But b H H1) (k : ∀ a, a ≠ b → H2 a = H1 a) : But b H H2 := fun a o n h => by rw [k a n]; exact x a o n h
theorem BagAt.ne {H : Hp} {b p : Addr} (h : BagAt H b) (n : H p = none) : p ≠ b := fun z => by
  obtain ⟨_, _, _, e⟩ := h
  rw [← z, n] at e
  cases e
theorem BagAt.upd {H : Hp} {b p : Addr} {o : HO} (h : BagAt H b) (n : p ≠ b) : BagAt (upd H p o) b := by
  obtain ⟨x, y, z, e⟩ := h
  exact ⟨x, y, z, by rw [upd_ne (fun z => n z.symm)]; exact e⟩
def spSizeM : Sp := fun vs H Q _ => ∃ (b : Addr) (most : Nat), vs = [.ref b, .int most] ∧ 1 ≤ most ∧ most ≤ 10 ^ 30 ∧ BagAt H b ∧ ∀ (n : Nat) (H' : Hp), 1 ≤ n → n ≤ most → But b H H' → BagAt H' b → Q (.int n) H'
theorem ok_law_sizeM {f g1 : Addr} {fd d1 : FuncData} (F : Fun K "_law_size" "_law_size" sLawSize f fd) (GLawPick : FnOk P w K mg base CX0 1 g1 d1 ["bag", "many"] spPick) (ALawPick : At K mg "_law_pick" g1 d1 ["bag", "many"]) (z_max : mg "max" = none) (z_min : mg "min" = none) (z_sum : mg "sum" = none) (z_range : mg "range" = none) :
    FnOk P w K mg base CX0 2 f fd ["bag", "most"] spSizeM := by
  refine F.ok scLawSize (fun vs H Q E h => ?_) (fun cdv A outer s H vs Q E hr h => ?_)
  · obtain ⟨_, _, rfl, _⟩ := h
    rfl
  obtain ⟨b, most, rfl, m1, m30, hb, q⟩ := h
  refine' ⟨_, (pss_cons (ps_set (i := 2) scLawSize.nd rfl (Or.inl rfl) (pe_call GLawPick (hr.mono (by decide)) rfl ALawPick.m ALawPick.kp ALawPick.b .nil pass0 (pa_cons (pv 0) (pa_cons pe_int pa_nil))))
    (pss_cons (ps_if (pt_cmpR op_eq (pv 2) pe_int (nomark _))
    (pss_one (ps_ret (pe_op op_add pe_int (pe_call GLawPick (hr.mono (by decide)) rfl ALawPick.m ALawPick.kp ALawPick.b .nil pass0 (pa_cons (pv 0) (pa_cons (pv 1) pa_nil))))))
    pss_nil)
    (pss_cons ?cc1
    (pss_one (ps_ret (pe_callB (call_min2 rfl) (by rfl) z_min (by decide +kernel) (pa_cons (pv 1) (pa_cons (pe_callB (call_max2 rfl) (by rfl) z_max (by decide +kernel) (pa_cons pe_int (pa_cons (pe_op op_sub (pe_op op_add (pe_callB (cr_sum rfl) (by rfl) z_sum (by decide +kernel) (pa_cons (pv 3) pa_nil)) (pe_call GLawPick (hr.mono (by decide)) rfl ALawPick.m ALawPick.kp ALawPick.b .nil pass0 (pa_cons (pv 0) (pa_cons pe_int pa_nil)))) pe_int) pa_nil))) pa_nil)))))))), ?_⟩
  case cc1 => exact (ps_setLc (i := 3) (own := [("turn", 4)]) rfl scLawSize.nd rfl rfl (sw_true rfl rfl rfl (by decide +kernel)) (pi_range1 (by rfl) z_range (pa_cons (pe_ix ix_list (pe_lst (pa_cons pe_int (pa_cons pe_int (pa_cons pe_int (pa_cons pe_int pa_nil))))) (pv 2) (fun _ _ => rfl)) pa_nil)) (blkOk_by (N := ["bag", "most", "way", "powers", "turn"]) (sc := defScope sLawSize) (by decide +kernel)) (fun _ _ _ _ _ => (pg_name (i := 4) scLawSize.nd rfl (Or.inl rfl))) (fun _ _ _ _ _ => pts_nil) (fun _ _ _ _ _ => (pe_op op_shl pe_int (pe_call GLawPick (hr.mono (by decide)) rfl ALawPick.m ALawPick.kp ALawPick.b .nil pass0 (pa_cons (pv 0) (pa_cons (pe_bits (pv 1)) pa_nil))))))
  have fin : ∀ (z : Int) (H5 : Hp), But b H H5 → BagAt H5 b → Q (.int (if (if z > 1 then z else 1) < (most : Int) then (if z > 1 then z else 1) else (most : Int))) H5 := fun z H5 B5 b5 => by
    have z1 : 1 ≤ (if z > 1 then z else 1) := by split <;> omega
    generalize (if z > 1 then z else 1) = y at z1
    have y1 : 1 ≤ (if y < (most : Int) then y else (most : Int)) ∧ (if y < (most : Int) then y else (most : Int)) ≤ most := by split <;> omega
    generalize (if y < (most : Int) then y else (most : Int)) = u at y1
    obtain ⟨un, rfl⟩ := Int.eq_ofNat_of_zero_le (show 0 ≤ u by omega)
    exact q un H5 (by omega) (by omega) B5 b5
  refine ⟨_, rfl, b, 4, rfl, by decide, by decide, hb, fun r H1 r0 r1 k1 b1 => ?_⟩
  have B1 : But b H H1 := (But.refl b H).pick k1
  refine ⟨_, rfl, rfl, _, rfl, ite2 (fun c => ?_) (fun c => ?_)⟩
  · refine ⟨_, rfl, _, rfl, b, most, rfl, by omega, by omega, b1, fun r2 H2 r20 r21 k2 b2 => ⟨_, _, rfl, rfl, ?_⟩⟩
    have B2 := B1.pick k2
    obtain ⟨rn, rfl⟩ := Int.eq_ofNat_of_zero_le r20
    have e : (1 : Int) + (rn : Int) = ((1 + rn : Nat) : Int) := by omega
    have q2 := q (1 + rn) H2 (by omega) (by omega) B2 b2
    rw [← e] at q2
    exact q2
  · have rne : r ≠ 0 := fun z => by
      subst z
      exact c (decide_eq_true rfl)
    have hv : ∃ m : Nat, atI [V.int 1, V.int 1, V.int 3, V.int 6] r = some (.int (m : Int)) ∧ m ≤ 6 := by
      have : r = 1 ∨ r = 2 ∨ r = 3 := by omega
      rcases this with rfl | rfl | rfl
      · exact ⟨1, atI_nat (j := 1) rfl, by decide⟩
      · exact ⟨3, atI_nat (j := 2) rfl, by decide⟩
      · exact ⟨6, atI_nat (j := 3) rfl, by decide⟩
    obtain ⟨m, hm, m6⟩ := hv
    refine ⟨(by show 4 ≤ sizeLine; decide), fun l nl => ?_⟩
    have s2 := same_upd (o := .lst [.int 1, .int 1, .int 3, .int 6]) nl
    have h2 : (upd H1 l (.lst [.int 1, .int 1, .int 3, .int 6])) l = some (.lst [.int 1, .int 1, .int 3, .int 6]) := upd_same
    have B2 := B1.same s2
    have b2 := b1.same s2
    generalize upd H1 l (.lst [.int 1, .int 1, .int 3, .int 6]) = H2 at h2 B2 b2
    refine ⟨_, rfl, l, _, _, _, rfl, rfl, SqL.of h2, hm, ?_⟩
    have bl : ((Builtin.Int.intBits (most : Int) : Nat) : Int) = ((most.log2 + 1 : Nat) : Int) := by rw [bits_nat, if_neg (by omega)]
    have l100 : most.log2 < 100 := (Nat.log2_lt (by omega)).mpr (Nat.lt_of_le_of_lt m30 (by decide))
    refine ⟨(m : Int), rfl, by omega, by omega, fun D nD => ?_⟩
    have Db := b2.ne nD
    refine lc_range (lo := 0) (n := m) (fun i H' => ∃ L : List Int, But b H2 H' ∧ BagAt H' b ∧ H' D = some (.lst (L.map V.int)) ∧ L.length = i) ⟨[], But.of (same_upd nD), b2.upd Db, upd_same, rfl⟩ ?_ ?_
    · rintro j H3 hj ⟨L, B3, b3, hD, hl⟩
      refine ⟨rfl, ?_⟩
      refine ⟨_, rfl, _, rfl, _, rfl, b, _, congrArg (fun z => [V.ref b, V.int z]) bl, by omega, by omega, b3, fun r4 H4 r40 r41 k4 b4 => ?_⟩
      refine ⟨_, _, rfl, rfl, ⟨r40, by omega, by decide⟩, ?_⟩
      have hD4 : H4 D = some (.lst (L.map V.int)) := (k4 D Db).trans hD
      refine ⟨_, hD4, szlt (by rw [List.length_map]; omega), L ++ [(1 : Int) * 2 ^ r4.toNat], ?_, b4.upd Db, ?_, by rw [List.length_append, List.length_singleton, hl]⟩
      · exact fun a o n k => by
          by_cases z : a = D
          · subst z; rw [nD] at k; cases k
          · rw [upd_ne z, k4 a n]; exact B3 a o n k
      · rw [List.map_append]; exact upd_same
    rintro H3 ⟨L, B3, b3, hD, hl⟩
    refine ⟨_, rfl, _, rfl, D, L, rfl, SqL.of hD, _, rfl, b, 3, rfl, by decide, by decide, b3, fun r4 H4 r40 r41 k4 b4 => ?_⟩
    exact ⟨_, _, rfl, rfl, _, _, rfl, rfl, _, _, rfl, _, _, rfl, fin _ H4 ((B2.trans B3).pick k4) b4⟩
end
end LT

namespace LT
open PySem PySem.Spec PyProof.Rows L2
theorem tf_is {m c : Nat} (hm : 0 < m) (hc : 1 ≤ c) : (c + m - 1) / m = (c - 1) / m + 1 := by
  rw [show c + m - 1 = (c - 1) + m by omega, Nat.add_div_right _ hm]
theorem tAll_step {h n : Nat} (hh : 1 ≤ h) (hn : 1 ≤ n) : tAll h n = tf h n + tAll h (n / 2 ^ h) := by unfold tAll; rw [kc_step hh hn, List.map_cons, List.sum_cons]
theorem tFull_step {h n : Nat} (hh : 1 ≤ h) (hn : 1 ≤ n) : tFull h n = n / 2 ^ h + tFull h (n / 2 ^ h) := by unfold tFull; rw [kc_step hh hn, List.map_cons, List.sum_cons]
theorem tAll_zero (h : Nat) : tAll h 0 = 0 := by unfold tAll; rw [kc_zero]; rfl
theorem tFull_zero (h : Nat) : tFull h 0 = 0 := by unfold tFull; rw [kc_zero]; rfl
theorem tFull_le (h : Nat) (hh : 1 ≤ h) (n : Nat) : tFull h n ≤ n := by
  induction n using Nat.strongRecOn with
  | ind n ih =>
    by_cases z : n = 0
    · subst z; rw [tFull_zero]; exact Nat.le_refl _
    · rw [tFull_step hh (by omega)]
      have h2 : 2 ^ 1 ≤ 2 ^ h := Nat.pow_le_pow_right (by decide) hh
      have d := Nat.div_le_div_left (a := n) h2 (by decide)
      have := ih (n / 2 ^ h) (by omega)
      omega
theorem tAll_le (h : Nat) (hh : 1 ≤ h) (n : Nat) : tAll h n ≤ 3 * n := by
  induction n using Nat.strongRecOn with
  | ind n ih =>
    by_cases z : n = 0
    · subst z; rw [tAll_zero]; exact Nat.le_refl _
    · rw [tAll_step hh (by omega)]
      have h2 : 2 ^ 1 ≤ 2 ^ h := Nat.pow_le_pow_right (by decide) hh
      have d := Nat.div_le_div_left (a := n) h2 (by decide)
      have d2 := Nat.div_le_div_left (a := n - 1) h2 (by decide)
      have := ih (n / 2 ^ h) (by omega)
      unfold tf
      omega
theorem step_pow {n h r : Nat} : n / 2 ^ ((r + 1) * h) = n / 2 ^ (r * h) / 2 ^ h := by
  rw [Nat.div_div_eq_div_mul, ← Nat.pow_add, show r * h + h = (r + 1) * h by rw [Nat.succ_mul]]
theorem pow_le_of_div {n e : Nat} (h : 1 ≤ n / 2 ^ e) (h30 : n ≤ 10 ^ 30) : e < 100 := by
  have p := Nat.pow_pos (a := 2) (n := e) (by decide)
  have h1 := (Nat.le_div_iff_mul_le p).mp h
  have h2 : 2 ^ e < 2 ^ 100 := by
    have : (10 : Nat) ^ 30 < 2 ^ 100 := by decide
    omega
  exact (Nat.pow_lt_pow_iff_right (by decide : 1 < 2)).mp h2
theorem div_cast (a b : Nat) : (a : Int) / (b : Int) = ((a / b : Nat) : Int) := (Int.natCast_ediv a b).symm
/-! ### rows of a dict whose keys are (rank, number) -/
abbrev kk (r k : Nat) : List L2.Key := [Sum.inl (r : Int), Sum.inl (k : Int)]
theorem kk_inj {r k s j : Nat} (h : kk r k = kk s j) : r = s ∧ k = j := by
  have h1 := List.cons.inj h
  have h2 := List.cons.inj h1.2
  have e1 := Sum.inl.inj h1.1
  have e2 := Sum.inl.inj h2.1
  omega
def rowG (r c : Nat) (f : Nat → Nat) : List (List L2.Key × V) := (List.range c).map fun k => (kk r k, V.int ((f k : Nat) : Int))
theorem rowG_congr {r c : Nat} {f g : Nat → Nat} (h : ∀ k, k < c → f k = g k) : rowG r c f = rowG r c g := by
  unfold rowG
  exact List.map_congr_left fun k hk => by rw [h k (List.mem_range.mp hk)]
theorem rowG_succ (r c : Nat) (f : Nat → Nat) : rowG r (c + 1) f = rowG r c f ++ [(kk r c, V.int ((f c : Nat) : Int))] := by
  unfold rowG
  rw [List.range_succ, List.map_append]
  rfl
/-- all keys have ranks below r -/
def under (r : Nat) (A : List (List L2.Key × V)) : Prop := ∀ x ∈ A, ∃ s k, s < r ∧ x.1 = kk s k
theorem under_rowG {r s c : Nat} {f : Nat → Nat} {A : List (List L2.Key × V)} (h : under r A) (hr : r ≤ s) : under (s + 1) (A ++ rowG s c f) := by
  intro x hx
  rcases List.mem_append.mp hx with k | k
  · obtain ⟨t, j, a, b⟩ := h x k
    exact ⟨t, j, by omega, b⟩
  · unfold rowG at k
    obtain ⟨j, _, rfl⟩ := List.mem_map.mp k
    exact ⟨s, j, by omega, rfl⟩
theorem val_skip {r s k : Nat} : ∀ {A B : List (List L2.Key × V)}, under r A → r ≤ s → valV (A ++ B) (kk s k) = valV B (kk s k)
  | [], _, _, _ => rfl
  | x :: A, B, h, hr => by
    have ne : ¬ x.1 = kk s k := fun z => by
      obtain ⟨t, j, a, b⟩ := h x List.mem_cons_self
      have := (kk_inj (b.symm.trans z)).1
      omega
    rw [List.cons_append, valV_neg ne]
    exact val_skip (fun y hy => h y (List.mem_cons_of_mem _ hy)) hr
theorem val_row {r k : Nat} {f : Nat → Nat} : ∀ c, valV (rowG r c f) (kk r k) = if k < c then some (V.int ((f k : Nat) : Int)) else none
  | 0 => rfl
  | c + 1 => by
    have ih := val_row (r := r) (k := k) (f := f) c
    rw [rowG_succ]
    by_cases h : k < c
    · rw [if_pos h] at ih
      rw [if_pos (by omega)]
      have : ∀ (A : List (List L2.Key × V)) {B : List (List L2.Key × V)} {v : V}, valV A (kk r k) = some v → valV (A ++ B) (kk r k) = some v := by
        intro A
        induction A with
        | nil => intro B v z; cases z
        | cons y A iha =>
          intro B v z
          by_cases e : y.1 = kk r k
          · rw [valV_pos e] at z
            rw [List.cons_append, valV_pos e]; exact z
          · rw [valV_neg e] at z
            rw [List.cons_append, valV_neg e]; exact iha z
      exact this _ ih
    · rw [if_neg h] at ih
      rw [valV_snoc _ _ _ _ (by
        have := val_row (r := r) (k := c) (f := f) c
        rw [if_neg (by omega)] at this
        exact this)]
      by_cases e : k = c
      · subst e
        rw [if_pos rfl, if_pos (by omega)]
      · rw [if_neg (fun z => e (kk_inj z).2), if_neg (by omega)]
        exact ih
theorem put_row {r c k : Nat} {f : Nat → Nat} {A : List (List L2.Key × V)} (h : under r A) (hk : k < c) (x : Nat) :
    putK (A ++ rowG r c f) (kk r k) (.int (x : Int)) = A ++ rowG r c (fun j => if j = k then x else f j) := by
  unfold putK
  rw [valV_any, val_skip h (Nat.le_refl _), val_row, if_pos hk, Option.isSome_some, if_pos rfl, List.map_append]
  congr 1
  · refine (List.map_congr_left fun y hy => ?_).trans (List.map_id _)
    obtain ⟨t, j, a, b⟩ := h y hy
    rw [if_neg]
    · rfl
    · intro z
      have := (kk_inj (b.symm.trans z)).1
      omega
  · unfold rowG
    rw [List.map_map]
    refine List.map_congr_left fun j _ => ?_
    show (if kk r j = kk r k then (kk r j, V.int (x : Int)) else (kk r j, V.int ((f j : Nat) : Int))) = (kk r j, V.int (((if j = k then x else f j) : Nat) : Int))
    by_cases e : j = k
    · rw [if_pos (by rw [e]), if_pos e]
    · rw [if_neg (fun z => e (kk_inj z).2), if_neg e]
theorem put_new {r c : Nat} {f : Nat → Nat} {A : List (List L2.Key × V)} (h : under r A) (x : Nat) :
    putK (A ++ rowG r c f) (kk r c) (.int (x : Int)) = A ++ rowG r (c + 1) (fun j => if j = c then x else f j) := by
  unfold putK
  rw [valV_any, val_skip h (Nat.le_refl _), val_row, if_neg (Nat.lt_irrefl _), rowG_succ, if_pos rfl]
  rw [if_neg (by simp), List.append_assoc]
  congr 2
  exact rowG_congr fun j hj => by rw [if_neg (by omega)]
/-- how many tiles c nodes take -/
def ct (m c : Nat) : Nat := (c + m - 1) / m
def wd (m c k : Nat) : Nat := min (c - k * m) m
/-- one more node -/
theorem row_more {r m i : Nat} {A : List (List L2.Key × V)} (hm : 0 < m) (h : under r A) :
    (valV (A ++ rowG r (ct m i) (wd m i)) (kk r (i / m))).getD (.int 0) = .int ((i % m : Nat) : Int) ∧
    putK (A ++ rowG r (ct m i) (wd m i)) (kk r (i / m)) (.int ((i % m + 1 : Nat) : Int)) = A ++ rowG r (ct m (i + 1)) (wd m (i + 1)) := by
  have d := Nat.div_add_mod i m
  have l := Nat.mod_lt i hm
  have sub1 : ∀ j, j < i / m → j * m + m ≤ i := fun j hj => by
    have := Nat.mul_le_mul_right m (show j + 1 ≤ i / m from hj)
    rw [Nat.succ_mul] at this
    have := Nat.div_mul_le_self i m
    omega
  have c1 : ct m (i + 1) = i / m + 1 := by
    unfold ct
    rw [show i + 1 + m - 1 = i + m by omega, Nat.add_div_right _ hm]
  have dm : i / m * m = m * (i / m) := Nat.mul_comm _ _
  by_cases z : i % m = 0
  · have c0 : ct m i = i / m := by
      unfold ct
      have e : i + m - 1 = m * (i / m) + (m - 1) := by omega
      rw [e, Nat.mul_add_div hm, Nat.div_eq_of_lt (show m - 1 < m by omega), Nat.add_zero]
    constructor
    · rw [val_skip h (Nat.le_refl _), val_row, c0, if_neg (Nat.lt_irrefl _), z]
      rfl
    · rw [c0, put_new h, c1]
      congr 1
      refine rowG_congr fun j hj => ?_
      unfold wd
      by_cases e : j = i / m
      · rw [if_pos e, e]; omega
      · rw [if_neg e]
        have := sub1 j (by omega)
        omega
  · have c0 : ct m i = i / m + 1 := by
      unfold ct
      have e : i + m - 1 = m * (i / m + 1) + (i % m - 1) := by rw [Nat.mul_succ]; omega
      rw [e, Nat.mul_add_div hm, Nat.div_eq_of_lt (show i % m - 1 < m by omega), Nat.add_zero]
    have wq : wd m i (i / m) = i % m := by unfold wd; omega
    constructor
    · rw [val_skip h (Nat.le_refl _), val_row, c0, if_pos (by omega), wq]
      rfl
    · rw [put_row h (by omega), c0, c1]
      congr 1
      refine rowG_congr fun j hj => ?_
      unfold wd
      by_cases e : j = i / m
      · rw [if_pos e, e]; omega
      · rw [if_neg e]
        have := sub1 j (by omega)
        omega
/-- all rows below the rank r -/
def WW (n h : Nat) : Nat → List (List L2.Key × V)
  | 0 => []
  | r + 1 => WW n h r ++ rowG r (ct (2 ^ h) (n / 2 ^ (r * h))) (wd (2 ^ h) (n / 2 ^ (r * h)))
theorem WW_under (n h : Nat) : ∀ r, under r (WW n h r)
  | 0 => fun x hx => absurd hx List.not_mem_nil
  | r + 1 => under_rowG (WW_under n h r) (Nat.le_refl _)
theorem WW_val (n h : Nat) {r k : Nat} : ∀ R, r < R → valV (WW n h R) (kk r k) = if k < ct (2 ^ h) (n / 2 ^ (r * h)) then some (V.int ((wd (2 ^ h) (n / 2 ^ (r * h)) k : Nat) : Int)) else none
  | 0, hr => absurd hr (by omega)
  | R + 1, hr => by
    by_cases e : r = R
    · subst e
      show valV (WW n h r ++ _) _ = _
      rw [val_skip (WW_under n h r) (Nat.le_refl _), val_row]
    · have ih := WW_val n h (r := r) (k := k) R (by omega)
      show valV (WW n h R ++ _) _ = _
      have app : ∀ (A B : List (List L2.Key × V)), (∀ x ∈ B, ¬ x.1 = kk r k) → valV (A ++ B) (kk r k) = valV A (kk r k) := by
        intro A B hB
        induction A with
        | nil =>
          show valV B _ = none
          induction B with
          | nil => rfl
          | cons b B ihb =>
            rw [valV_neg (hB b List.mem_cons_self)]
            exact ihb fun x hx => hB x (List.mem_cons_of_mem _ hx)
        | cons a A iha =>
          rw [List.cons_append]
          by_cases e : a.1 = kk r k
          · rw [valV_pos e, valV_pos e]
          · rw [valV_neg e, valV_neg e]; exact iha
      rw [app _ _ (fun x hx z => ?_)]
      · exact ih
      · unfold rowG at hx
        obtain ⟨j, _, rfl⟩ := List.mem_map.mp hx
        exact e (kk_inj z).1.symm
/-- each entry is a tile with its width -/
theorem WW_mem (n h : Nat) : ∀ (R : Nat) (x : List L2.Key × V), x ∈ WW n h R → ∃ r k, r < R ∧ k < ct (2 ^ h) (n / 2 ^ (r * h)) ∧ x = (kk r k, V.int ((wd (2 ^ h) (n / 2 ^ (r * h)) k : Nat) : Int))
  | 0, x, hx => absurd hx List.not_mem_nil
  | R + 1, x, hx => by
    rcases List.mem_append.mp hx with k | k
    · obtain ⟨r, j, a, b, c⟩ := WW_mem n h R x k
      exact ⟨r, j, by omega, b, c⟩
    · unfold rowG at k
      obtain ⟨j, hj, rfl⟩ := List.mem_map.mp k
      exact ⟨R, j, by omega, List.mem_range.mp hj, rfl⟩
theorem ct_tf {h c : Nat} (hc : 1 ≤ c) : ct (2 ^ h) c = tf h c := by
  unfold ct tf
  exact tf_is (Nat.pow_pos (by decide)) hc
theorem WW_len (n h : Nat) (hh : 1 ≤ h) : ∀ R, (∀ r, r < R → 1 ≤ n / 2 ^ (r * h)) → (WW n h R).length + tAll h (n / 2 ^ (R * h)) = tAll h n
  | 0, _ => by
    rw [Nat.zero_mul, Nat.pow_zero, Nat.div_one]
    show 0 + _ = _
    omega
  | R + 1, hr => by
    have ih := WW_len n h hh R fun r z => hr r (by omega)
    have st := tAll_step (n := n / 2 ^ (R * h)) hh (hr R (by omega))
    rw [← step_pow] at st
    show (WW n h R ++ rowG R _ _).length + _ = _
    rw [List.length_append]
    unfold rowG
    rw [List.length_map, List.length_range, ct_tf (hr R (by omega))]
    omega
/-- how many of the tiles are whole -/
def isW (m : Nat) (x : List L2.Key × V) : Bool := decide (x.2 = V.int (m : Int))
theorem row_whole {r m c : Nat} (hm : 0 < m) (hc : 1 ≤ c) : ((rowG r (ct m c) (wd m c)).filter (isW m)).length = c / m := by
  unfold rowG
  rw [List.filter_map, List.length_map]
  have e : (List.range (ct m c)).filter (isW m ∘ fun k => (kk r k, V.int ((wd m c k : Nat) : Int))) = (List.range (ct m c)).filter (fun k => decide (k < c / m)) := by
    refine List.filter_congr fun k hk => ?_
    show decide (V.int ((wd m c k : Nat) : Int) = V.int (m : Int)) = decide (k < c / m)
    have key : (wd m c k = m) ↔ k < c / m := by
      unfold wd
      rw [show (k < c / m) ↔ (k + 1 ≤ c / m) from Iff.rfl, Nat.le_div_iff_mul_le hm, Nat.succ_mul]
      omega
    by_cases z : k < c / m
    · rw [decide_eq_true z, decide_eq_true (by rw [key.mpr z])]
    · rw [decide_eq_false z, decide_eq_false (fun w => z (key.mp (by have := V.int.inj w; omega)))]
  rw [e]
  have le : c / m ≤ ct m c := by
    unfold ct
    exact Nat.div_le_div_right (by omega)
  have cnt : ∀ a b, b ≤ a → ((List.range a).filter (fun k => decide (k < b))).length = b := by
    intro a
    induction a with
    | zero => intro b hb; have : b = 0 := by omega
              subst this; rfl
    | succ a ih =>
      intro b hb
      rw [List.range_succ, List.filter_append, List.length_append]
      by_cases z : b ≤ a
      · rw [ih b z, List.filter_cons, if_neg (by simp; omega)]
        rfl
      · have e2 : (List.range a).filter (fun k => decide (k < b)) = (List.range a).filter (fun k => decide (k < a)) := List.filter_congr fun k hk => by
          have := List.mem_range.mp hk
          rw [decide_eq_true (show k < b by omega), decide_eq_true this]
        rw [e2, ih a (Nat.le_refl _), List.filter_cons, if_pos (by simp; omega)]
        show a + 1 = b
        omega
  exact cnt _ _ le
theorem WW_whole (n h : Nat) (hh : 1 ≤ h) : ∀ R, (∀ r, r < R → 1 ≤ n / 2 ^ (r * h)) → ((WW n h R).filter (isW (2 ^ h))).length + tFull h (n / 2 ^ (R * h)) = tFull h n
  | 0, _ => by
    rw [Nat.zero_mul, Nat.pow_zero, Nat.div_one]
    show 0 + _ = _
    omega
  | R + 1, hr => by
    have ih := WW_whole n h hh R fun r z => hr r (by omega)
    have st := tFull_step (n := n / 2 ^ (R * h)) hh (hr R (by omega))
    rw [← step_pow] at st
    show ((WW n h R ++ rowG R _ _).filter _).length + _ = _
    have sp := step_pow (n := n) (h := h) (r := R)
    rw [List.filter_append, List.length_append, row_whole (Nat.pow_pos (by decide)) (hr R (by omega)), ← sp]
    generalize n / 2 ^ ((R + 1) * h) = z at *
    omega
theorem small_up {b c : Int} (hc : 0 < c) (hc2 : c < 2 ^ 30) (hb : 0 ≤ b) (hb' : b < 2 ^ 60) : Builtin.Range.small 0 b c = true := by
  have hs : 0 ≤ Builtin.Range.rangeSize 0 b c ∧ Builtin.Range.rangeSize 0 b c ≤ b + 1 := by
    unfold Builtin.Range.rangeSize
    rw [if_pos hc]
    split
    · have h1 : 0 ≤ (b - 0 - 1) / c := Int.ediv_nonneg (by omega) (by omega)
      have h2 : (b - 0 - 1) / c ≤ b - 0 - 1 := Int.ediv_le_self _ (by omega)
      omega
    · omega
  unfold Builtin.Range.small
  generalize Builtin.Range.rangeSize 0 b c = z at hs
  rw [if_pos hc]
  simp only [Builtin.Range.rangeFitsLong, Bool.and_eq_true, Bool.or_eq_true, decide_eq_true_eq]
  omega
theorem range_up {n wd : Nat} (hw : 0 < wd) (hw2 : wd < 2 ^ 30) (hn : wd ≤ n) (hn2 : n < 2 ^ 59) : RgC 0 ((n : Int) - (wd : Int) + 1) (wd : Int) (n / wd) := by
  refine ⟨by omega, by omega, small_up (by omega) (by omega) (by omega) (by omega), ?_⟩
  unfold Builtin.Range.rangeSize
  rw [if_pos (show (wd : Int) > 0 by omega), if_pos (by omega), show (n : Int) - (wd : Int) + 1 - 0 - 1 = ((n - wd : Nat) : Int) by omega, div_cast]
  have : n / wd = (n - wd) / wd + 1 := by
    rw [← Nat.add_div_right _ hw, Nat.sub_add_cancel hn]
  omega
end LT

namespace LT
open PySem PySem.Spec PyProof.Rows L2
section
variable {P : Program} {w : World} {K : PySem.W.Frag} {mg : Str → Option Value} {base : Heap}
def spWidths : Sp := fun vs H Q _ => ∃ (n h : Nat), vs = [.int n, .int h] ∧ 1 ≤ n ∧ n ≤ 200 ∧ 1 ≤ h ∧ h ≤ 30 ∧ ∀ (H' : Hp) (p : Addr) (R : Nat), Same H H' → H p = none → H' p = some (.dT (WW n h R)) → (∀ r, r < R → 1 ≤ n / 2 ^ (r * h)) → n / 2 ^ (R * h) = 0 → Q (.ref p) H'
theorem ok_law_widths {f : Addr} {fd : FuncData} (F : Fun K "_law_widths" "_law_widths" sLawWidths f fd) (z_range : mg "range" = none) : FnOk P w K mg base CX0 1 f fd ["size", "tall"] spWidths := by
  refine F.ok scLawWidths (fun vs H Q E h => ?_) (fun cdv A outer s H vs Q E hr h => ?_)
  · obtain ⟨_, _, rfl, _⟩ := h
    rfl
  obtain ⟨n, h, rfl, n1, n200, h1, h30, q⟩ := h
  refine ⟨_, (pss_cons (ps_par (i := 2) (j := 3) (by rfl) scLawWidths.nd rfl rfl (by decide) rfl rfl (pa_cons pe_dnewT (pa_cons pe_int pa_nil)) (by rfl))
    (pss_cons (ps_while PassesOwn.never (pt_cmpR op_le (pe_op op_shl pe_int (pe_op op_mul (pv 3) (pv 1))) (pv 0) (nomark _))
    (pss_cons (ps_set (i := 4) scLawWidths.nd rfl (Or.inl rfl) (pe_op op_shl pe_int (pe_op op_mul (pv 3) (pv 1))))
    (pss_cons (ps_for PassesOwn.never rfl (pi_range3 (by rfl) z_range (pa_cons pe_int (pa_cons (pe_op op_add (pe_op op_sub (pv 0) (pv 4)) pe_int) (pa_cons (pv 4) pa_nil)))) (pg_name (i := 5) scLawWidths.nd rfl (Or.inl rfl))
    (pss_cons (ps_set (i := 6) scLawWidths.nd rfl (Or.inl rfl) (pe_tup (pa_cons (pv 3) (pa_cons (pe_op op_fdivW (pv 5) (pe_op op_shl pe_int (pe_op op_mul (pe_op op_add (pv 3) pe_int) (pv 1)))) pa_nil))))
    (pss_one (ps_dput (hu_of hr) (pv 2) (pv 6) (pe_op op_add (pe_dget2 (hu_of hr) (pv 2) (pv 6) pe_int ⟨rfl, rfl, rfl, rfl⟩) pe_int) rfl))))
    (pss_one (ps_set (i := 3) scLawWidths.nd rfl (Or.inl rfl) (pe_op op_add (pv 3) pe_int))))))
    (pss_one (ps_ret (pv 2))))), ?_⟩
  have two : 2 ≤ sizeLine := by decide
  have n30 : n ≤ 10 ^ 30 := by omega
  refine fun fa nfa => ⟨_, _, rfl, ?_⟩
  have m0 := Nat.pow_pos (a := 2) (n := h) (by decide)
  refine ⟨fun mu σ H' => ∃ (r : Nat) (v4 v5 v6 : Option V), σ = [some (.int n), some (.int h), some (.ref fa), some (.int (r : Int)), v4, v5, v6] ∧ Same H H' ∧ H' fa = some (.dT (WW n h r)) ∧ (∀ ρ, ρ < r → 1 ≤ n / 2 ^ (ρ * h)) ∧ r * h ≤ 130 ∧ mu = n / 2 ^ (r * h) + 0,
    ⟨n, 0, none, none, none, rfl, same_upd nfa, upd_same, fun ρ z => absurd z (by omega), by omega, by rw [Nat.zero_mul, Nat.pow_zero, Nat.div_one]; rfl⟩, ?_⟩
  rintro mu σ H1 ⟨r, v4, v5, v6, rfl, sm, hf, hr', hr130, hmu⟩
  have hD : (1 : Int) * 2 ^ ((r : Int) * (h : Int)).toNat = ((2 ^ (r * h) : Nat) : Int) := by
    rw [Int.one_mul, show (r : Int) * (h : Int) = ((r * h : Nat) : Int) from (Int.natCast_mul r h).symm, Int.toNat_natCast]
    exact (Int.natCast_pow 2 _).symm
  have hD1 : (1 : Int) * 2 ^ (((r : Int) + 1) * (h : Int)).toNat = ((2 ^ ((r + 1) * h) : Nat) : Int) := by
    rw [Int.one_mul, show ((r : Int) + 1) * (h : Int) = (((r + 1) * h : Nat) : Int) from (Int.natCast_mul (r + 1) h).symm, Int.toNat_natCast]
    exact (Int.natCast_pow 2 _).symm
  have p0 := Nat.pow_pos (a := 2) (n := r * h) (by decide)
  have rb : (0 : Int) ≤ (r : Int) * (h : Int) ∧ (r : Int) * (h : Int) ≤ 1000000 := by
    rw [show (r : Int) * (h : Int) = ((r * h : Nat) : Int) from (Int.natCast_mul r h).symm]
    omega
  have r1h : (r + 1) * h ≤ 160 := by rw [Nat.succ_mul]; omega
  have rb1 : (0 : Int) ≤ ((r : Int) + 1) * (h : Int) ∧ ((r : Int) + 1) * (h : Int) ≤ 1000000 := by
    rw [show ((r : Int) + 1) * (h : Int) = (((r + 1) * h : Nat) : Int) from (Int.natCast_mul (r + 1) h).symm]
    omega
  have r130 : r ≤ 130 := Nat.le_trans (Nat.le_mul_of_pos_right r (by omega)) hr130
  refine ⟨_, rfl, _, rfl, _, _, rfl, rfl, .inl ⟨by omega, by omega⟩, _, _, rfl, rfl, ⟨rb.1, rb.2, by decide⟩, _, rfl, _, _, rfl, rfl, _, rfl, ite2 (fun c1 => ?_) (fun c1 => ?_)⟩
  · have c2 : (1 : Int) * 2 ^ ((r : Int) * (h : Int)).toNat ≤ (n : Int) := of_decide_eq_true c1
    rw [hD] at c2
    have wn : 2 ^ (r * h) ≤ n := by omega
    have c3 : 1 ≤ n / 2 ^ (r * h) := (Nat.le_div_iff_mul_le p0).mpr (by omega)
    have rh100 := pow_le_of_div c3 n30
    have sp := step_pow (n := n) (h := h) (r := r)
    have wm : 2 ^ ((r + 1) * h) = 2 ^ (r * h) * 2 ^ h := by rw [Nat.succ_mul, Nat.pow_add]
    have lt : n / 2 ^ ((r + 1) * h) < n / 2 ^ (r * h) := by rw [sp]; exact Nat.div_lt_self (by omega) (Nat.one_lt_two_pow (by omega))
    refine ⟨_, fun σ' H' h => h, _, rfl, _, rfl, _, _, rfl, rfl, .inl ⟨by omega, by omega⟩, _, _, rfl, rfl, ⟨rb.1, rb.2, by decide⟩, ?_⟩
    dsimp only
    rw [hD]
    have p1b : 2 ^ ((r + 1) * h) < 2 ^ 200 := Nat.pow_lt_pow_right (by decide) (by omega)
    have p1 := Nat.pow_pos (a := 2) (n := (r + 1) * h) (by decide)
    have wl := WW_len n h h1 r hr'
    have ta := tAll_le h h1 n
    have WR : WW n h (r + 1) = WW n h r ++ rowG r (ct (2 ^ h) (n / 2 ^ (r * h))) (wd (2 ^ h) (n / 2 ^ (r * h))) := rfl
    have un := WW_under n h r
    generalize hw : 2 ^ (r * h) = w at *
    generalize hq : n / w = qn at *
    have qb : qn ≤ n := by rw [← hq]; exact Nat.div_le_self _ _
    refine ⟨_, rfl, _, rfl, _, _, rfl, rfl, _, _, rfl, rfl, _, rfl, 0, _, (w : Int), n / w, rfl, range_up p0 (by omega) wn (by omega), ?_⟩
    rw [hq]
    refine for_rangeC (lo := 0) (c := (w : Int)) (n := qn) (fun i σ H' => ∃ (v5 v6 : Option V), σ = [some (.int n), some (.int h), some (.ref fa), some (.int (r : Int)), some (.int (w : Int)), v5, v6] ∧ Same H H' ∧ H' fa = some (.dT (WW n h r ++ rowG r (ct (2 ^ h) i) (wd (2 ^ h) i))))
      ⟨v5, v6, rfl, sm, ?_⟩ ?_ ?_
    · have e0 : ct (2 ^ h) 0 = 0 := by
        unfold ct
        rw [Nat.zero_add]
        exact Nat.div_eq_of_lt (by omega)
      rw [e0, hf]
      show _ = some (HO.dT (WW n h r ++ []))
      rw [List.append_nil]
    · rintro i σ H2 hi ⟨v5, v6, rfl, s2, hf2⟩
      have e1 : ((0 : Int) + (i : Int) * (w : Int)) / (1 * 2 ^ (((r : Int) + 1) * (h : Int)).toNat) = ((i / 2 ^ h : Nat) : Int) := by
        rw [hD1, Int.zero_add, show (i : Int) * (w : Int) = ((i * w : Nat) : Int) from (Int.natCast_mul _ _).symm, div_cast, wm, ← Nat.div_div_eq_div_mul, Nat.mul_div_cancel _ p0]
      have hz0 : (0 : Int) < 1 * 2 ^ (((r : Int) + 1) * (h : Int)).toNat := by rw [hD1]; omega
      have hzb : ((1 : Int) * 2 ^ (((r : Int) + 1) * (h : Int)).toNat).natAbs < 2 ^ 200 := by rw [hD1]; exact p1b
      refine ⟨_, rfl, _, rfl, _, rfl, _, _, rfl, rfl, _, rfl, _, _, rfl, rfl, .inl ⟨by omega, by omega⟩, _, _, rfl, rfl, ⟨rb1.1, rb1.2, by decide⟩, _, _, rfl, rfl, wide_div hz0 hzb (by decide) (by decide), two, fun t nt => ?_⟩
      dsimp only
      rw [e1]
      have u3 := same_upd (o := .tup [.int (r : Int), .int ((i / 2 ^ h : Nat) : Int)]) nt
      have ht : (upd H2 t (.tup [.int (r : Int), .int ((i / 2 ^ h : Nat) : Int)])) t = some (.tup ((kk r (i / 2 ^ h)).map kV)) := upd_same
      have hf3 := u3 _ _ hf2
      have s3 := s2.trans u3
      generalize upd H2 t (.tup [.int (r : Int), .int ((i / 2 ^ h : Nat) : Int)]) = H3 at ht hf3 s3
      have rm := row_more (r := r) (i := i) m0 un
      have ln : (WW n h r ++ rowG r (ct (2 ^ h) i) (wd (2 ^ h) i)).length < sizeLine := by
        rw [List.length_append]
        have e5 : (rowG r (ct (2 ^ h) i) (wd (2 ^ h) i)).length = ct (2 ^ h) i := by unfold rowG; rw [List.length_map, List.length_range]
        have e6 : ct (2 ^ h) i ≤ i + 1 := by
          unfold ct
          rw [← Nat.lt_succ_iff, Nat.div_lt_iff_lt_mul m0]
          have := Nat.le_mul_of_pos_right (i + 1 + 1) m0
          have h7 : i + 1 ≤ (i + 1) * 2 ^ h := Nat.le_mul_of_pos_right _ m0
          rw [Nat.succ_mul]
          omega
        exact szlt (by omega)
      refine ⟨_, rfl, fa, rfl, .inr ⟨_, .inl hf3⟩, _, rfl, _, DGet.t hf3 ht, _, _, rm.1, rfl, _, rfl, _, rfl, fa, _, rfl, DPut.t hf3 ht ln, ?_⟩
      have e8 : V.int (((i % 2 ^ h : Nat) : Int) + 1) = V.int ((i % 2 ^ h + 1 : Nat) : Int) := rfl
      refine ⟨_, _, rfl, ?_, ?_⟩
      · exact fun a o k => by rw [upd_ne (ne_of_none k nfa)]; exact s3 _ _ k
      · rw [upd_same]
        dsimp only
        rw [e8, rm.2]
    · rintro σ H2 ⟨v5, v6, rfl, s2, hf2⟩
      refine ⟨_, rfl, _, _, rfl, rfl, n / 2 ^ ((r + 1) * h), by omega, r + 1, _, _, _, rfl, s2, ?_, fun ρ z => ?_, by rw [Nat.succ_mul]; omega, rfl⟩
      · rw [WR, hf2]
      · by_cases e : ρ = r
        · rw [e, hw, hq]; exact c3
        · exact hr' ρ (by omega)
  · have c2 : ¬ (1 : Int) * 2 ^ ((r : Int) * (h : Int)).toNat ≤ (n : Int) := of_decide_eq_false (Bool.eq_false_iff.mpr c1)
    rw [hD] at c2
    exact ⟨_, rfl, q H1 fa r sm nfa hf hr' (Nat.div_eq_of_lt (by omega))⟩
end
end LT

namespace LT
open PySem PySem.Spec PyProof.Rows L2
/-! ### promises of defs that show things: what is being shown around them is told to be nothing -/
structure GOk (P : Program) (w : World) (K : PySem.W.Frag) (mg : Str → Option Value) (base : Heap) (k : Nat) (f : Addr) (fd : FuncData) (ps : List Str) (sp : Sp) : Prop where
  len : ∀ vs H Q E, sp vs H Q E → vs.length = ps.length
  run : ∀ (A : Around) (outer : List Env) (s : Shared) (H : Hp) (args : Args) (us : List Value) (vs : List V) (Q : VK), A.guards = some [] → Room k A → Env0 P w K mg base A outer s H → BindsTo s fd args (ps.zip us) → Vals vs us → sp vs H Q E0 →
    codeAny (model P w) A (.call (.ref f) args) (CR CX0 outer P w H s Q E0) s
section
variable {P : Program} {w : World} {K : PySem.W.Frag} {mg : Str → Option Value} {base : Heap} {k : Nat} {f : Addr} {fd : FuncData} {ps : List Str} {sp : Sp}
theorem GOk.of (F : FnOk P w K mg base CX0 k f fd ps sp) : GOk P w K mg base k f fd ps sp := by
  refine ⟨F.len, ?_⟩
  intro A outer s H args us vs Q _
  exact F.run A outer s H args us vs Q E0
theorem GOk.mono {j : Nat} (F : GOk P w K mg base j f fd ps sp) (h : j ≤ k) : GOk P w K mg base k f fd ps sp := by
  refine ⟨F.len, ?_⟩
  intro A outer s H args us vs Q hg hr
  exact F.run A outer s H args us vs Q hg (hr.mono h)
/-- a def by its body, as Fun.ok -/
theorem okG {x qual : Str} {st : Stmt} {N : List Str} (F : Fun K x qual st f fd) (S : FnScope N ps (defScope st)) (len : ∀ vs H Q E, sp vs H Q E → vs.length = ps.length)
    (body : ∀ (cdv : Value) (A : Around) (outer : List Env) (s : Shared) (H : Hp) (vs : List V) (Q : VK), A.guards = some [] → Room k (A.deeper (envOfC qual (defScope st) s.heap.objs.size f cdv)) → sp vs H Q E0 →
      ∃ t, PSs (cxOf CX0 P w K mg base N qual (defScope st) f cdv A outer s H E0).nox (defBody st) t ∧ t { nx := fun _ H' => Q .non H', rt := Q } (start N vs) H) : GOk P w K mg base (k + 1) f fd ps sp := by
  obtain ⟨oc, od, kV, doc, pm, an, cdv, ct, osl, e, lk, hcd⟩ := F.ex
  subst e
  refine ⟨len, ?_⟩
  intro A outer s H args us vs Q hg hr ev hb rv hsp
  have nvs := len _ _ _ _ hsp
  have there : K.In s.heap := ev.mod.kin.keeps (fun b o q => (ev.bs b o q).1)
  have noLim : s.heap.NoLimit := ev.mod.nolimit.keeps (fun b o q => (ev.bs b o q).1)
  have kinds : ∀ y ∈ ps.zip us, (defScope st).names.lookup y.1 = some .local ∨ ((defScope st).names.lookup y.1 = some .cell ∧ ((cellsFrom (s.heap.objs.size + 1) (defScope st).names []).lookup y.1).isSome = true) := by
    intro y hy
    rcases S.par y.1 (List.of_mem_zip hy).1 with q | q
    · exact Or.inl q
    · exact Or.inr ⟨q, PySem.W.cellsFrom_some _ _ _ (Or.inl q)⟩
  apply codeAny_call_function hr.depth (there _ _ lk) rfl S.co S.gen rfl (PySem.W.codeRec_of there hcd)
  apply hb
  apply wpAny_newFunctionEnv_cells S.kind kinds
  intro env he s1 made
  subst he
  refine ⟨noLim.keeps made.toInCall.keep, codeAny_func ?_⟩
  obtain ⟨t, ht, hq⟩ := body cdv A outer s H vs Q hg (hr.deeper _) hsp
  have I : Inv (cxOf CX0 P w K mg base N qual (defScope st) f cdv A outer s H E0) [] (start N vs) H s1 := inv_start S hr.hd ev nvs rv made
  have ran := ht.nox.run [] s1 (start N vs) H _ I hq
  apply wpAny_mono ran
  · intro fl s' hs
    have fin : ∀ {σ' : L2.St} {H' : Hp} {v : V} {u : Value}, Inv (cxOf CX0 P w K mg base N qual (defScope st) f cdv A outer s H E0) [] σ' H' s' → RelV v u → Q v H' → CE outer P w H s Q u s' := by
      intro σ' H' v u J r q
      exact ⟨v, H', J.os, J.bare, J.base, J.hok, r, q⟩
    match fl, hs with
    | .ret u, ⟨v, σ', H', J, r, q⟩ => exact fin J r q
    | .next, ⟨σ', H', J, q⟩ => exact fin (v := V.non) (u := Value.none) J rfl q
    | .brk, ⟨_, _, _, q⟩ => exact False.elim q
    | .cont, ⟨_, _, _, q⟩ => exact False.elim q
  · intro e s' hs
    exact hs
end
section
variable {X : Cx} {k : Nat} {f : Addr} {fd : FuncData} {ps : List Str} {sp : Sp} {x : Str} {p pos : Pos} {e : Expr} {es : List Expr} {t : TA}
theorem runG {pins : List (Addr × Obj)} {σ : L2.St} {H : Hp} {s : Shared} {Q : VK} {us : List Value} {vs : List V} (F : GOk X.prog X.w X.K X.mg X.base k f fd ps sp) (hg : X.A.guards = some []) (hr : Room k X.A) (hb : Binds X.K fd ps [])
    (I : Inv X pins σ H s) (rv : Vals vs us) (h : sp vs H Q E0) : wpAny (model X.prog X.w) X.A (call (.ref f) us) (EP X pins σ Q) X.xe s := by
  have n : (us ++ []).length = ps.length := by
    rw [List.append_nil, ← rv.length]
    exact F.len _ _ _ _ h
  have b := hb s us I.kIn n
  rw [List.append_nil] at b
  apply wpAny_call
  apply codeAny_mono (F.run X.A X.stack s H ⟨us, []⟩ us vs Q hg hr I.env0 b rv h)
  intro res s' hq
  match res, hq with
  | .error _, hq => exact False.elim hq
  | .ok (.ret u), hq => exact I.after hq
  | .ok .next, hq => exact False.elim hq
  | .ok .brk, hq => exact False.elim hq
  | .ok .cont, hq => exact False.elim hq
theorem pe_callG (F : GOk X.prog X.w X.K X.mg X.base k f fd ps sp) (hgd : X.A.guards = some []) (hr : Room k X.A) (hg : Gl X x) (hm : X.mg x = some (.ref f)) (hk : PySem.W.keepIn X.K (.ref f) = true) (hb : Binds X.K fd ps [])
    (ha : PA X (e :: es) t) (hdb : (x == ("__debug__" : Str)) = false := by decide) (he : starEach (e :: es) X.env = (false, eval e X.env) :: starEach es X.env := by rfl) (hpl : (backTo pos (starEach es X.env)).any (·.1) = false := by rfl) :
    PE X (.Call (.Name x p) (e :: es) [] pos) (tCall sp [] E0 t) := by
  constructor
  intro pins s σ H Q I h
  apply wpAny_Call_Name_kw
  refine ld_glob I hg hm ?_ hdb
  apply PySem.W.callWith_K (h₀ := X.base) I.ok.mod.kin hk _ he hpl
  apply thn (ha.run pos pins s σ H _ I h)
  intro us s1 hh
  obtain ⟨vs, H1, I1, rv, q⟩ := hh
  rw [List.append_nil] at q
  exact ⟨I1.kIn, runG F hgd hr hb I1 rv q⟩
/-- repr of lists and tuples of plain data -/
theorem call_repr (hg : X.A.guards = some []) (hu : X.A.units + 65 < cLine) :
    CallR X (.builtin "repr") (fun xs H Q => ∃ y d, xs = [y] ∧ Dp X.K H y d ∧ PyProof.Rows.isDisplay d = true ∧ SeqAt.shaped d = true ∧ d.showable = true ∧ d.shown.length ≤ sizeLine ∧ Q (.str d.shown) H) := by
  intro pins s σ H xs us Q I r h
  obtain ⟨y, d, rfl, hd, hi, hsh, hs, hl, q⟩ := h
  obtain ⟨u, rfl, r1⟩ := vals1 r
  obtain ⟨as, r2⟩ := Dp.reads I d y u hd r1
  obtain ⟨a, rfl⟩ := PyProof.Rows.isRef_of_reads r2 hi
  have dp := SeqAt.depth_of_shaped hsh
  refine repr_of_reads' r2 hs (PyData.noDict_hsm (PyData.hasDict_of_canLay d (SeqAt.canLay_of_shaped hsh))) hg (by omega) (fun _ _ q => q) ?_ hl
  intro h' u tk kept
  exact ⟨.str d.shown, H, I.kept kept, ⟨_, rfl⟩, q⟩
theorem call_reprB {s : Shared} {H : Hp} {sc : Scope} {ce : Env} {fp : List Addr} (hg : X.A.guards = some []) (hu : X.A.units + 65 < cLine) :
    CallR (X.blk s H sc ce fp) (.builtin "repr") (fun xs H Q => ∃ y d, xs = [y] ∧ Dp X.K H y d ∧ PyProof.Rows.isDisplay d = true ∧ SeqAt.shaped d = true ∧ d.showable = true ∧ d.shown.length ≤ sizeLine ∧ Q (.str d.shown) H) := call_repr (X := X.blk s H sc ce fp) hg hu
end
end LT

namespace LT
open PySem PySem.Spec PyProof.Rows L2
section
variable {P : Program} {w : World} {K : PySem.W.Frag} {mg mb : Str → Option Value} {k : Nat} {fa a : Addr} {fd : FuncData} {x : Str} {sp : Sp} {s₁ : Shared} {vs : List Value} {ns : List Int}
/-- what is told of the heap ahead of the law's call: the script alone, where it is no object of the top -/
def told (K : PySem.W.Frag) (a : Addr) (ob : Obj) (ns : List Int) : Hp := fun b => if b = a ∧ K.lookup a = none then some (.frz ob (.lst (ns.map V.int))) else none
theorem told_at {ob : Obj} {b : Addr} {u : HO} (h : told K a ob ns b = some u) : b = a ∧ K.lookup a = none ∧ u = .frz ob (.lst (ns.map V.int)) := by
  unfold told at h
  by_cases c : b = a ∧ K.lookup a = none
  · rw [if_pos c] at h
    exact ⟨c.1, c.2, (Option.some.inj h).symm⟩
  · rw [if_neg c] at h
    cases h
/-- the law's call, from a promise that asks that nothing is being shown -/
theorem lawG (there : K.In s₁.heap) (globs : s₁.heap.Ns mainGlobals mg) (blts : s₁.heap.Ns builtinsNs mb) (boot : ∀ y : Str, y ≠ "__name__" → mb y = bootBuiltins y) (noLim : s₁.heap.NoLimit) (noGens : s₁.gens = #[])
    (obj : s₁.heap.get? a = some { cls := .type "list", data := .seq vs.toArray }) (areI : IntsAre vs ns) (few : ns.length ≤ sizeLine) (hr : Room k callerA)
    (F : ∀ base : Heap, K.In base → base.Ns mainGlobals mg → GOk P w K mg base k fa fd [x] sp) (binds : ∀ (s : Shared) (u : Value), BindsTo s fd ⟨[u], []⟩ [(x, u)])
    (keeps : ∀ H : Hp, Only H → SqL K H a (ns.map V.int) → sp [.ref a] H (fun v _ => v = .bl true) E0) :
    codeAny (model P w) callerA (.call (.ref fa) ⟨[.ref a], []⟩) (fun r s' => r = .ok (.ret (.bool true)) ∧ OldK s₁.heap s'.heap ∧ s'.os = s₁.os ∧ AllBare s'.gens) s₁ := by
  generalize ho : ({ cls := .type "list", data := .seq vs.toArray } : Obj) = ob at obj
  have items := vals_ints areI
  have only : Only (told K a ob ns) := by
    intro b
    cases q : told K a ob ns b with
    | none => exact Or.inl rfl
    | some u => exact Or.inr ⟨ob, ns.map V.int, by rw [(told_at q).2.2]⟩
  have sq : SqL K (told K a ob ns) a (ns.map V.int) := by
    cases q : K.lookup a with
    | none => exact Or.inl (Or.inr ⟨ob, if_pos ⟨rfl, q⟩⟩)
    | some o =>
      have same : o = ob := Option.some.inj ((there a o q).symm.trans obj)
      subst same
      subst ho
      refine Or.inr ⟨_, vs.toArray, _, q, rfl, rfl, rfl, ?_, by simpa using items⟩
      rw [List.size_toArray, areI.length]
      exact few
  have fits : HOk P w (told K a ob ns) s₁.heap := by
    intro b u q
    obtain ⟨rfl, _, rfl⟩ := told_at q
    subst ho
    exact ⟨obj, by rw [List.length_map]; exact few, vs, _, items, obj⟩
  have behind : ∀ {b : Addr} {o : Obj}, s₁.heap.get? b = some o → told K a ob ns b = none → (hidT s₁.heap (told K a ob ns)).get? b = some o := fun q n => hidT_get q n
  have nsp : ∀ {b : Addr} {m : Str → Option Value}, s₁.heap.Ns b m → (hidT s₁.heap (told K a ob ns)).Ns b m := by
    rintro b m ⟨o, es, ep, q, d, r⟩
    refine ⟨o, es, ep, behind q ?_, d, r⟩
    cases z : told K a ob ns b with
    | none => rfl
    | some u =>
      obtain ⟨rfl, _, _⟩ := told_at z
      rw [obj] at q
      cases q
      subst ho
      cases (show Data.seq vs.toArray _ = Data.dict es ep from d)
  have inB : K.In (hidT s₁.heap (told K a ob ns)) := by
    intro b o q
    refine behind (there b o q) ?_
    cases z : told K a ob ns b with
    | none => rfl
    | some u =>
      obtain ⟨rfl, n, _⟩ := told_at z
      rw [n] at q
      cases q
  have M : Mod K mg (hidT s₁.heap (told K a ob ns)) := by
    obtain ⟨mc, c1, c2⟩ := noLim
    exact ⟨inB, nsp globs, ⟨mb, nsp blts, boot⟩, ⟨mc, nsp c1, c2⟩⟩
  have ev : Env0 P w K mg (hidT s₁.heap (told K a ob ns)) callerA [] s₁ (told K a ob ns) :=
    { frames := rfl, mod := M, bs := fun _ _ q => of_hidT q, bsz := Nat.le_of_eq (hidT_size _ _), funs := trivial, frf := fun b q => absurd (show b ∈ ([] : List Addr) from q) List.not_mem_nil, hok := fits, bare := .of_eq noGens }
  have ran := (F _ inB (nsp globs)).run callerA [] s₁ (told K a ob ns) ⟨[.ref a], []⟩ [.ref a] [.ref a] _ rfl hr ev (binds s₁ (.ref a)) (.cons rfl .nil) (keeps _ only sq)
  apply codeAny_mono ran
  intro res s' h
  match res, h with
  | .error _, h => exact False.elim h
  | .ok .next, h => exact False.elim h
  | .ok .brk, h => exact False.elim h
  | .ok .cont, h => exact False.elim h
  | .ok (.ret u), ⟨v, H', os, bare, un, hok', rv, q⟩ =>
    have qv : v = .bl true := q
    subst qv
    have qu : u = Value.bool true := rv
    subst qu
    refine ⟨rfl, OldK.of_keep ?_, os, bare⟩
    intro b o q1
    cases z : told K a ob ns b with
    | none => exact un.keep b o q1 z (fun m => absurd (show b ∈ ([] : List Addr) from m) List.not_mem_nil) List.not_mem_nil
    | some c =>
      obtain ⟨rfl, n, rfl⟩ := told_at z
      obtain ⟨e1, _⟩ := fits _ _ z
      obtain ⟨e2, _⟩ := hok' _ _ (un.frzs _ _ _ z)
      rw [q1] at e1
      cases e1
      exact e2
end
theorem walkG {l : PySem.W.OpenLaw} {n k : Nat} {q : Program} {loose : List Str} {XP : (Str → Option Value) → Heap → Prop} {YP : World → Heap → Prop} {d : DefRec} {K : Params → PySem.W.Frag} {sp : World → Sp} {x : Str}
    (hn : l.most = some n) (hn2 : n ≤ sizeLine) (hdf : d.params.defaults = []) (hr : Room k callerA) (hY : ∀ (w : World) (h : Heap), YP w h → (K w.params).In h)
    (F : ∀ (w : World) (mg : Str → Option Value) (fa : Addr) (h : Heap), (K w.params).In h → h.Ns mainGlobals mg → mg d.name = some (.ref fa) →
      ∃ fd : FuncData, (∀ (s : Shared) (u : Value), BindsTo s fd ⟨[u], []⟩ [(x, u)]) ∧ ∀ base : Heap, (K w.params).In base → base.Ns mainGlobals mg → GOk l.prog w (K w.params) mg base k fa fd [x] (sp w))
    (keeps : ∀ (w : World) (H : Hp) (a : Addr) (ns : List Int), ns.length ≤ n → Only H → SqL (K w.params) H a (ns.map V.int) → sp w [.ref a] H (fun v _ => v = .bl true) E0) :
    PySem.W.WalkO q loose XP YP l.row.toRowW d [] (fun f vs => PySem.call f vs) := by
  apply Att.attach_call hn hdf
  intro w s₀ s₁ mg mb fa o pm cd doc a vs ns G Y ho hd hcd hmg hobj hints hlen hg
  obtain ⟨fd, hb, hF⟩ := F w mg fa _ (hY w _ Y) G.T.g hmg
  exact lawG (hY w _ Y) G.T.g G.T.b G.T.builtins G.T.nolimit hg hobj hints (Nat.le_trans hlen hn2) hr hF hb (fun H hO hS => keeps w H a ns hlen hO hS)
end LT

namespace LT
open PySem PySem.Spec PyProof.Rows L2
theorem int_short40 {a : Nat} (h : a < 10 ^ 40) : (PyData.shown (.int ((a : Nat) : Int))).length ≤ 41 := by
  have e := int_text_length_le10 (a := ((a : Nat) : Int)) (k := 40) (by decide) (by show a < 10 ^ 40; exact h)
  show (Str.ofString (toString ((a : Nat) : Int))).length ≤ 41
  rw [PySem.ofString_length]; exact e
theorem int_weight40 {a : Nat} (h : a < 10 ^ 40) : PyData.weight (.int ((a : Nat) : Int)) ≤ 140 := by
  show (if ((a : Nat) : Int) == 0 then 0 else ((a : Nat) : Int).natAbs.log2 + 1) ≤ 140
  split
  · omega
  · rename_i z
    have : ((a : Nat) : Int).natAbs = a := rfl
    rw [this]
    have a0 : a ≠ 0 := fun e => z (by subst e; rfl)
    have := (Nat.log2_lt (k := 134) a0).mpr (Nat.lt_of_lt_of_le h (by decide))
    omega
theorem pair_short40 {a b : Nat} (h1 : a < 10 ^ 40) (h2 : b < 10 ^ 40) : (PyData.tuple [.int ((a : Nat) : Int), .int ((b : Nat) : Int)]).shown.length ≤ sizeLine := by
  have w1 := int_weight40 h1
  have w2 := int_weight40 h2
  have k := PyData.shown_le 41 (by decide) (PyData.tuple [.int ((a : Nat) : Int), .int ((b : Nat) : Int)]) (PyData.leavesShort_of_canLay0 41 _ ?_ ?_)
  rotate_left
  · simp [PyData.canLay0, PyData.canLayAll0]
  · simp only [PyData.intsShort, PyData.intsShortAll, Bool.and_eq_true, decide_eq_true_eq, Bool.and_true]
    exact ⟨int_short40 h1, int_short40 h2⟩
  · have e : (PyData.tuple [.int ((a : Nat) : Int), .int ((b : Nat) : Int)]).weight = (PyData.weight (.int ((a : Nat) : Int)) + 1 + (PyData.weight (.int ((b : Nat) : Int)) + 1 + 0)) := by
      simp only [PyData.weight, PyData.weightAll]
    rw [e] at k
    rw [sizeLine_eq]
    omega
theorem log40 {a : Nat} (h : a < 10 ^ 40) : ((a : Nat) : Int).natAbs.log2 < 1920 := by
  have : ((a : Nat) : Int).natAbs = a := rfl
  rw [this]
  by_cases z : a = 0
  · subst z; decide
  · exact Nat.lt_of_lt_of_le ((Nat.log2_lt (k := 134) z).mpr (Nat.lt_of_lt_of_le h (by decide))) (by decide)
theorem pair_showable40 {a b : Nat} (h1 : a < 10 ^ 40) (h2 : b < 10 ^ 40) : (PyData.tuple [.int ((a : Nat) : Int), .int ((b : Nat) : Int)]).showable = true := by
  simp only [PyData.showable, PyData.showableAll, Bool.and_true, Bool.and_eq_true]
  exact ⟨decide_eq_true (log40 h1), decide_eq_true (log40 h2)⟩
end LT

namespace LT
open PySem PySem.Spec PyProof.Rows L2
/-! ### lists of ints as data -/
theorem ints_lay : ∀ ns : List Int, PyData.canLayAll0 (ns.map PyData.int) = true
  | [] => by simp [PyData.canLayAll0]
  | n :: ns => by simp [PyData.canLayAll0, PyData.canLay0, ints_lay ns]
theorem ints_depth : ∀ ns : List Int, PyData.depthAll (ns.map PyData.int) ≤ 1
  | [] => by simp [PyData.depthAll]
  | n :: ns => by
    have := ints_depth ns
    simp only [List.map_cons, PyData.depthAll, PyData.depth]
    omega
theorem ints_shaped (ns : List Int) : SeqAt.shaped (.list (ns.map PyData.int)) = true := by
  have h := ints_depth ns
  have h2 : PyData.depth (.list (ns.map PyData.int)) ≤ 64 := by
    simp only [PyData.depth]
    omega
  show (PyData.canLay0 (.list (ns.map PyData.int)) && decide (PyData.depth (.list (ns.map PyData.int)) ≤ 64)) = true
  rw [Bool.and_eq_true]
  exact ⟨by simp only [PyData.canLay0]; exact ints_lay ns, decide_eq_true h2⟩
theorem ints_dp {K : PySem.W.Frag} {H : Hp} : ∀ ns : List Int, DpAll K H (ns.map V.int) (ns.map PyData.int)
  | [] => .nil
  | n :: ns => .cons (.int n) (ints_dp ns)
theorem ints_nil : ∀ ns : List Int, PyData.eqv (.list (ns.map PyData.int)) (.list []) = ns.isEmpty
  | [] => by simp only [List.map_nil, PyData.eqv, PyData.eqvAll, List.isEmpty_nil]
  | n :: ns => by simp only [List.map_cons, PyData.eqv, PyData.eqvAll, List.isEmpty_cons]
theorem nil_shaped : SeqAt.shaped (.list []) = true := ints_shaped []
end LT

namespace LT
open PySem PySem.Spec PyProof.Rows L2
theorem ne_no {x y : V} (h : x = y) : V.bl (!decide (x = y)) = V.bl false := by rw [decide_eq_true h]; rfl
theorem tw_wd (n h r k : Nat) : tw n h r k = wd (2 ^ h) (n / 2 ^ (r * h)) k := rfl
theorem wd_far {m c k : Nat} (hm : 0 < m) (h : ct m c ≤ k) : wd m c k = 0 := by
  unfold wd
  have h1 : c + m - 1 < (k + 1) * m := by
    have := (Nat.div_lt_iff_lt_mul hm).mp (show (c + m - 1) / m < k + 1 from Nat.lt_succ_of_le h)
    exact this
  rw [Nat.succ_mul] at h1
  have : c - k * m = 0 := by omega
  rw [this, Nat.zero_min]
section
variable {P : Program} {w : World} {K : PySem.W.Frag} {mg : Str → Option Value} {base : Heap}
def spRight : Sp := fun vs H Q _ => ∃ (n h : Nat), vs = [.int n, .int h] ∧ 1 ≤ n ∧ n ≤ 200 ∧ 1 ≤ h ∧ h ≤ 30 ∧ ∀ (H' : Hp), Same H H' → Q (.bl true) H'
theorem ok_law_right {f g1 g2 g3 : Addr} {fd d1 d2 d3 : FuncData} (F : Fun K "_law_right" "_law_right" sLawRight f fd)
    (GTileWidth : FnOk P w K mg base CX0 4 g1 d1 ["size", "height", "level", "number"] spTileWidth) (ATileWidth : At K mg "tile_width" g1 d1 ["size", "height", "level", "number"])
    (GTileCount : FnOk P w K mg base CX0 4 g2 d2 ["size", "height"] spTileCount) (ATileCount : At K mg "tile_count" g2 d2 ["size", "height"])
    (GLawWidths : FnOk P w K mg base CX0 1 g3 d3 ["size", "tall"] spWidths) (ALawWidths : At K mg "_law_widths" g3 d3 ["size", "tall"])
    (z_len : mg "len" = none) (z_repr : mg "repr" = none) : GOk P w K mg base 5 f fd ["size", "tall"] spRight := by
  refine okG F scLawRight (fun vs H Q E h => ?_) (fun cdv A outer s H vs Q hg hr h => ?_)
  · obtain ⟨_, _, rfl, _⟩ := h
    rfl
  obtain ⟨n, h, rfl, n1, n200, h1, h30, q⟩ := h
  refine' ⟨_, (pss_cons (ps_set (i := 2) scLawRight.nd rfl (Or.inr rfl) (pe_call GLawWidths (hr.mono (by decide)) rfl ALawWidths.m ALawWidths.kp ALawWidths.b .nil pass0 (pa_cons (pv 0) (pa_cons (pv 1) pa_nil))))
    (pss_cons ?cc1
    (pss_cons (ps_if (pt_cmpR op_ne (pe_callB (call_repr hg (units1 hr)) (by rfl) z_repr (by decide +kernel) (pa_cons (pe_call GTileCount (hr.mono (by decide)) rfl ATileCount.m ATileCount.kp ATileCount.b .nil pass0 (pa_cons (pv 0) (pa_cons (pv 1) pa_nil))) pa_nil)) (pe_callB (call_repr hg (units1 hr)) (by rfl) z_repr (by decide +kernel) (pa_cons (pe_tup (pa_cons (pe_callB call_len_dT (by rfl) z_len PySem.boot_len (pa_cons (pv 2) pa_nil)) (pa_cons (pe_callB call_len_seq (by rfl) z_len PySem.boot_len (pa_cons (pv 4) pa_nil)) pa_nil))) pa_nil)) (nomark _))
    (pss_one (ps_ret pe_bl))
    pss_nil)
    (pss_cons (ps_lock (ps_for PassesOwn.never rfl (pi_keys (pv 2)) (pg_name (i := 3) scLawRight.nd rfl (Or.inl rfl))
    (pss_cons (ps_if (pt_cmpR op_ne (pe_callB SkE.call_repr_int (by rfl) z_repr (by decide +kernel) (pa_cons (pe_call GTileWidth (hr.mono (by decide)) rfl ATileWidth.m ATileWidth.kp ATileWidth.b .nil pass0 (pa_cons (pv 0) (pa_cons (pv 1) (pa_cons (pe_ix ix_tup (pv 3) pe_int (fun _ _ => rfl)) (pa_cons (pe_ix ix_tup (pv 3) pe_int (fun _ _ => rfl)) pa_nil))))) pa_nil)) (pe_callB SkE.call_repr_int (by rfl) z_repr (by decide +kernel) (pa_cons (pe_dget (hu_of hr) (pv 2) (pv 3) (fun _ _ => rfl)) pa_nil)) (nomark _))
    (pss_one (ps_ret pe_bl))
    pss_nil)
    (pss_one (ps_if (pt_cmpR op_ne (pe_call GTileWidth (hr.mono (by decide)) rfl ATileWidth.m ATileWidth.kp ATileWidth.b .nil pass0 (pa_cons (pv 0) (pa_cons (pv 1) (pa_cons (pe_ix ix_tup (pv 3) pe_int (fun _ _ => rfl)) (pa_cons (pe_op op_add (pe_ix ix_tup (pv 3) pe_int (fun _ _ => rfl)) pe_int) pa_nil))))) (pe_dget2 (hu_of hr) (pv 2) (pe_tup (pa_cons (pe_ix ix_tup (pv 3) pe_int (fun _ _ => rfl)) (pa_cons (pe_op op_add (pe_ix ix_tup (pv 3) pe_int (fun _ _ => rfl)) pe_int) pa_nil))) pe_int ⟨rfl, rfl, rfl, rfl⟩) (nomark _))
    (pss_one (ps_ret pe_bl))
    pss_nil)))))
    (pss_one (ps_ret (pe_cmpR (op_eqD hr.units) (pe_lc (own := [("rank", 5), ("number", 6)]) rfl scLawRight.nd (pi_tup (pe_tup (pa_cons (pe_tup (pa_cons pe_int (pa_cons pe_int pa_nil))) (pa_cons (pe_tup (pa_cons pe_int (pa_cons (pe_op op_pow pe_int pe_int) pa_nil))) (pa_cons (pe_tup (pa_cons (pe_op op_pow pe_int pe_int) (pa_cons pe_int pa_nil))) pa_nil))))) (blkOk_by (N := ["size", "tall", "widths", "key", "whole", "rank", "number"]) (sc := defScope sLawRight) (by decide +kernel)) (fun _ _ _ _ _ => (pg_tupB (n := 2) rfl (pgs_cons (pg_name (i := 5) scLawRight.nd rfl (Or.inl rfl)) (pgs_cons (pg_name (i := 6) scLawRight.nd rfl (Or.inl rfl)) pgs_nil)))) (fun _ _ _ _ _ => pts_nil) (fun _ _ _ _ _ => (pe_call GTileWidth (hr.mono (by decide)) rfl ATileWidth.m ATileWidth.kp ATileWidth.b .nil pass0 (pa_cons (pv 0) (pa_cons (pv 1) (pa_cons (pv 5) (pa_cons (pv 6) pa_nil))))))) (pe_op op_rep (pe_lst (pa_cons pe_int pa_nil)) pe_int) (nomark _)))))))), ?_⟩
  case cc1 => exact (ps_lock (ps_setLc (i := 4) (own := [("key", 3)]) rfl scLawRight.nd rfl rfl (sw_true rfl rfl rfl (by decide +kernel)) (pi_keys (pv 2)) (blkOk_by (N := ["size", "tall", "widths", "key", "whole", "rank", "number"]) (sc := defScope sLawRight) (by decide +kernel)) (fun _ _ _ _ _ => (pg_name (i := 3) scLawRight.nd rfl (Or.inl rfl))) (fun _ _ _ _ _ => pts_one (pt_cmpR op_eq (pe_dget (hu_of hr) (pv 2) (pv 3) (fun _ _ => rfl)) (pe_op op_shl pe_int (pv 1)) (nomark _))) (fun _ _ _ _ _ => (pv 3))))
  have two : 2 ≤ sizeLine := by decide
  have n30 : n ≤ 10 ^ 30 := by omega
  have m0 := Nat.pow_pos (a := 2) (n := h) (by decide)
  have mb : 2 ^ h ≤ 2 ^ 30 := Nat.pow_le_pow_right (by decide) h30
  have tA : tAll h n ≤ 3 * n := tAll_le h h1 n
  have tF : tFull h n ≤ n := tFull_le h h1 n
  refine ⟨_, rfl, _, rfl, n, h, rfl, n1, n200, h1, h30, fun H1 p R s1 np hp hR hR0 => ?_⟩
  have len := WW_len n h h1 R hR
  have whl := WW_whole n h h1 R hR
  rw [hR0, tAll_zero, Nat.add_zero] at len
  rw [hR0, tFull_zero, Nat.add_zero] at whl
  have mem := WW_mem n h R
  have val := fun r k hr => WW_val n h (r := r) (k := k) R hr
  generalize WW n h R = kvs at hp len whl mem val
  refine ⟨p, _, hp, trivial, fun od => ?_⟩
  have hE : ∀ (r j : Nat), r < R → j < ct (2 ^ h) (n / 2 ^ (r * h)) → valV kvs (kk r j) = some (.int ((wd (2 ^ h) (n / 2 ^ (r * h)) j : Nat) : Int)) := fun r j hr hj => by rw [val r j hr, if_pos hj]
  refine ⟨_, rfl, p, od, rfl, .inr ⟨kvs, upd_same, fun D nD => lc_it walk_keysT (fun i H' => ∃ acc : List V, But p H1 H' ∧ H' p = some (.frz od (.dT kvs)) ∧ H' D = some (.lst acc) ∧ acc.length = ((kvs.take i).filter (isW (2 ^ h))).length) ?_ (fun i H' _ ⟨_, _, k, _⟩ => k) ?_ ?_⟩⟩
  · have Dp' : D ≠ p := fun z => by rw [z, upd_same] at nD; cases nD
    refine ⟨[], fun a o na k => ?_, ?_, upd_same, rfl⟩
    · have nD1 : H1 D = none := by rw [upd_ne Dp'] at nD; exact nD
      rw [upd_ne (ne_of_none k nD1), upd_ne na]; exact k
    · rw [upd_ne (fun z => Dp' z.symm)]; exact upd_same
  · rintro i x H3 H4 hi ⟨acc, B, hfz, hD, hl⟩ ⟨rfl, k, v, qa, hk, rfl, hq⟩
    obtain ⟨r, j, hr, hj, e⟩ := mem _ (List.mem_of_getElem? hk)
    cases e
    refine ⟨rfl, ?_⟩
    refine ⟨_, rfl, _, rfl, p, _, rfl, .inr ⟨kvs, kk r j, qa, .inr ⟨od, hfz⟩, rfl, hq, (hE r j hr hj).symm⟩, _, rfl, _, _, rfl, rfl, ⟨Int.natCast_nonneg _, by omega, by decide⟩, rfl, _, rfl, ?_⟩
    have e1 : (1 : Int) * 2 ^ ((h : Nat) : Int).toNat = ((2 ^ h : Nat) : Int) := by rw [Int.one_mul, Int.toNat_natCast]; exact (Int.natCast_pow 2 _).symm
    have tk : kvs.take (i + 1) = kvs.take i ++ [(kk r j, V.int ((wd (2 ^ h) (n / 2 ^ (r * h)) j : Nat) : Int))] := take_more hk
    refine ite2 (fun c => ?_) (fun c => ?_)
    · have c : isW (2 ^ h) (kk r j, V.int ((wd (2 ^ h) (n / 2 ^ (r * h)) j : Nat) : Int)) = true := by
        have c2 : V.int ((wd (2 ^ h) (n / 2 ^ (r * h)) j : Nat) : Int) = V.int ((1 : Int) * 2 ^ ((h : Nat) : Int).toNat) := of_decide_eq_true c
        rw [e1] at c2
        exact decide_eq_true c2
      have Dp' : D ≠ p := fun z => by rw [z, hfz] at hD; cases hD
      have al : acc.length ≤ i := by rw [hl]; exact Nat.le_trans (List.length_filter_le _ _) (List.length_take_le _ _)
      have iln : i < kvs.length := hi
      refine ⟨_, rfl, acc, hD, szlt (by omega), acc ++ [.ref qa], fun a o na k => ?_, ?_, upd_same, ?_⟩
      · have nD1 : a ≠ D := fun z => by
          subst z
          have k2 := B a o na k
          rw [hD] at k2
          cases k2
          exact absurd k (fun z => by
            have := nD
            rw [upd_ne Dp'] at this
            rw [this] at z
            cases z)
        rw [upd_ne nD1]; exact B a o na k
      · rw [upd_ne (fun z => Dp' z.symm)]; exact hfz
      · rw [tk, List.filter_append, List.length_append, List.length_append, hl]
        congr 1
        rw [List.filter_cons, if_pos c]
        rfl
    · have c : ¬ isW (2 ^ h) (kk r j, V.int ((wd (2 ^ h) (n / 2 ^ (r * h)) j : Nat) : Int)) = true := fun z => c (by
        have c2 : V.int ((wd (2 ^ h) (n / 2 ^ (r * h)) j : Nat) : Int) = V.int ((2 ^ h : Nat) : Int) := of_decide_eq_true z
        rw [← e1] at c2
        exact decide_eq_true c2)
      refine ⟨acc, B, hfz, hD, ?_⟩
      rw [tk, List.filter_append, List.length_append, hl, List.filter_cons, if_neg c]
      rfl
  rintro H3 ⟨acc, B, hfz, hD, hl⟩
  rw [List.take_length] at hl
  refine ⟨hfz, ?_⟩
  have s4 : Same H1 (upd H3 p (.dT kvs)) := fun a o k => by
    by_cases z : a = p
    · subst z
      rw [hp] at k
      cases k
      exact upd_same
    · rw [upd_ne z]; exact B a o z k
  have Dp' : D ≠ p := fun z => by rw [z, hfz] at hD; cases hD
  have hD4 : (upd H3 p (.dT kvs)) D = some (.lst acc) := by rw [upd_ne Dp']; exact hD
  have hp4 := s4 _ _ hp
  generalize upd H3 p (.dT kvs) = H4 at s4 hD4 hp4
  have a40 : tAll h n < 10 ^ 40 := Nat.lt_of_le_of_lt (Nat.le_trans tA (Nat.mul_le_mul_left 3 n30)) (by decide)
  have f40 : tFull h n < 10 ^ 40 := Nat.lt_of_le_of_lt (Nat.le_trans tF n30) (by decide)
  refine ⟨_, rfl, _, rfl, n, h, rfl, n1, n30, h1, h30, fun H5 pc s5 npc hpc => ⟨_, _, rfl, hpc.dp, rfl, nd_shaped _ _, pair_showable40 a40 f40, pair_short40 a40 f40, ?_⟩⟩
  have hp5 := s5 _ _ hp4
  have hD5 := s5 _ _ hD4
  refine ⟨_, rfl, p, kvs, rfl, hp5, _, rfl, D, acc, rfl, .inl (SqL.of hD5), two, fun t nt => ?_⟩
  have u6 := same_upd (o := .tup [.int ((kvs.length : Nat) : Int), .int ((acc.length : Nat) : Int)]) nt
  have h6 : Nd (upd H5 t (.tup [.int ((kvs.length : Nat) : Int), .int ((acc.length : Nat) : Int)])) (.ref t) (kvs.length, acc.length) := ⟨t, rfl, upd_same⟩
  have hp6 := u6 _ _ hp5
  have s6 := (s1.trans s4).trans (s5.trans u6)
  generalize upd H5 t (.tup [.int ((kvs.length : Nat) : Int), .int ((acc.length : Nat) : Int)]) = H6 at h6 hp6 s6
  have elen : kvs.length = tAll h n := len
  have ewh : acc.length = tFull h n := hl.trans whl
  rw [elen, ewh] at h6
  refine ⟨_, _, rfl, h6.dp, rfl, nd_shaped _ _, pair_showable40 a40 f40, pair_short40 a40 f40, rfl, false, ne_no rfl, ?_⟩
  refine ⟨p, _, hp6, trivial, fun od2 => ?_⟩
  refine ⟨_, rfl, p, od2, rfl, .inr ⟨kvs, upd_same, for_it walk_keysT (fun i σ H' => ∃ v3 : Option V, σ = [some (.int n), some (.int h), some (.ref p), v3, some (.ref D), none, none] ∧ But p H6 H' ∧ H' p = some (.frz od2 (.dT kvs))) ⟨none, rfl, fun a o na k => by rw [upd_ne na]; exact k, upd_same⟩ (fun i σ H' _ ⟨_, _, _, k⟩ => k) ?_ ?_⟩⟩
  · rintro i x σ H7 H8 hi ⟨v3, rfl, B7, hfz7⟩ ⟨rfl, k, v, qa, hk, rfl, hq⟩
    obtain ⟨r, j, hr, hj, e⟩ := mem _ (List.mem_of_getElem? hk)
    cases e
    have hq : H8 qa = some (.tup [.int (r : Int), .int (j : Int)]) := hq
    have wb : wd (2 ^ h) (n / 2 ^ (r * h)) j ≤ n := by
      unfold wd
      have := Nat.div_le_self n (2 ^ (r * h))
      omega
    have jb : j ≤ n := by
      have h7 : ct (2 ^ h) (n / 2 ^ (r * h)) ≤ n / 2 ^ (r * h) + 1 := by
        unfold ct
        rw [← Nat.lt_succ_iff, Nat.div_lt_iff_lt_mul m0]
        have h8 : n / 2 ^ (r * h) + 1 ≤ (n / 2 ^ (r * h) + 1) * 2 ^ h := Nat.le_mul_of_pos_right _ m0
        rw [Nat.succ_mul]
        omega
      have := Nat.div_le_self n (2 ^ (r * h))
      omega
    have b200 : ∀ x, x ≤ 1000 → x < 2 ^ 200 := fun x hx => Nat.lt_of_le_of_lt hx (by decide)
    have lg : ((wd (2 ^ h) (n / 2 ^ (r * h)) j : Nat) : Int).natAbs.log2 < 1920 := log40 (Nat.lt_of_le_of_lt wb (Nat.lt_of_le_of_lt n30 (by decide)))
    refine ⟨_, rfl, _, rfl, _, rfl, qa, _, _, _, rfl, rfl, SqT.of hq, atI_nat (j := 0) rfl, _, rfl, qa, _, _, _, rfl, rfl, SqT.of hq, atI_nat (j := 1) rfl, n, h, r, j, rfl, n1, n30, h1, h30, b200 j (by omega), fun H9 s9 => ?_⟩
    have hq9 := s9 _ _ hq
    have hfz9 := s9 _ _ hfz7
    refine ⟨_, rfl, lg, ?_⟩
    refine ⟨_, rfl, _, rfl, p, _, rfl, .inr ⟨kvs, kk r j, qa, .inr ⟨od2, hfz9⟩, rfl, hq9, (hE r j hr hj).symm⟩, _, rfl, lg, rfl, false, ne_no rfl, ?_⟩
    refine ⟨_, rfl, _, rfl, _, rfl, qa, _, _, _, rfl, rfl, SqT.of hq9, atI_nat (j := 0) rfl, _, rfl, qa, _, _, _, rfl, rfl, SqT.of hq9, atI_nat (j := 1) rfl, _, _, rfl, rfl, n, h, r, j + 1, rfl, n1, n30, h1, h30, b200 (j + 1) (by omega), fun H10 s10 => ?_⟩
    have hq10 := s10 _ _ hq9
    have hfz10 := s10 _ _ hfz9
    by_cases cj : j + 1 < ct (2 ^ h) (n / 2 ^ (r * h))
    · have ov := hE r (j + 1) hr cj
      refine ⟨_, rfl, p, rfl, .inr ⟨_, .inr ⟨od2, hfz10⟩⟩, _, rfl, qa, _, _, _, rfl, rfl, SqT.of hq10, atI_nat (j := 0) rfl, _, rfl, qa, _, _, _, rfl, rfl, SqT.of hq10, atI_nat (j := 1) rfl, _, _, rfl, rfl, two, fun t2 nt2 => ?_⟩
      have u11 := same_upd (o := .tup [.int (r : Int), .int ((j : Int) + 1)]) nt2
      refine ⟨some _, .inr ⟨kvs, kk r (j + 1), t2, .inr ⟨od2, u11 _ _ hfz10⟩, rfl, upd_same, ov.symm⟩, rfl, false, ne_no (congrArg V.int (by rw [tw_wd])), ?_⟩
      exact ⟨_, rfl, fun a o na k => u11 _ _ (s10 _ _ (s9 _ _ (B7 a o na k))), u11 _ _ hfz10⟩
    · have ov := val r (j + 1) hr
      rw [if_neg cj] at ov
      refine ⟨_, rfl, p, rfl, .inr ⟨_, .inr ⟨od2, hfz10⟩⟩, _, rfl, qa, _, _, _, rfl, rfl, SqT.of hq10, atI_nat (j := 0) rfl, _, rfl, qa, _, _, _, rfl, rfl, SqT.of hq10, atI_nat (j := 1) rfl, _, _, rfl, rfl, two, fun t2 nt2 => ?_⟩
      have u11 := same_upd (o := .tup [.int (r : Int), .int ((j : Int) + 1)]) nt2
      refine ⟨none, .inr ⟨kvs, kk r (j + 1), t2, .inr ⟨od2, u11 _ _ hfz10⟩, rfl, upd_same, ov.symm⟩, rfl, false, ne_no (congrArg V.int (by rw [tw_wd]; rw [wd_far m0 (by omega)]; rfl)), ?_⟩
      exact ⟨_, rfl, fun a o na k => u11 _ _ (s10 _ _ (s9 _ _ (B7 a o na k))), u11 _ _ hfz10⟩
  · rintro σ H7 ⟨v3, rfl, B7, hfz7⟩
    refine ⟨hfz7, ?_⟩
    have s8 : Same H6 (upd H7 p (.dT kvs)) := fun a o k => by
      by_cases z : a = p
      · subst z
        rw [hp6] at k
        cases k
        exact upd_same
      · rw [upd_ne z]; exact B7 a o z k
    generalize upd H7 p (.dT kvs) = H8 at s8
    have e40 : (10 : Int) ^ (40 : Int).toNat = ((10 ^ 40 : Nat) : Int) := by decide
    refine ⟨two, fun t1 n1' => ⟨_, _, rfl, rfl, ⟨by decide, by decide, by decide⟩, two, fun t2 n2' => ⟨_, _, rfl, rfl, ⟨by decide, by decide, by decide⟩, two, fun t3 n3' => ⟨(by show 3 ≤ sizeLine; decide), fun t4 n4' => ?_⟩⟩⟩⟩
    have u1 := same_upd (o := .tup [.int 99, .int 0]) n1'
    have u2 := same_upd (o := .tup [.int 0, .int ((10 : Int) ^ (40 : Int).toNat)]) n2'
    have u3 := same_upd (o := .tup [.int ((10 : Int) ^ (40 : Int).toNat), .int 1]) n3'
    have u4 := same_upd (o := .tup [.ref t1, .ref t2, .ref t3]) n4'
    have ht4 : (upd (upd (upd (upd H8 t1 (.tup [.int 99, .int 0])) t2 (.tup [.int 0, .int ((10 : Int) ^ (40 : Int).toNat)])) t3 (.tup [.int ((10 : Int) ^ (40 : Int).toNat), .int 1])) t4 (.tup [.ref t1, .ref t2, .ref t3])) t4 = some (.tup [.ref t1, .ref t2, .ref t3]) := upd_same
    have hx : All2 (Nd (upd (upd (upd (upd H8 t1 (.tup [.int 99, .int 0])) t2 (.tup [.int 0, .int ((10 : Int) ^ (40 : Int).toNat)])) t3 (.tup [.int ((10 : Int) ^ (40 : Int).toNat), .int 1])) t4 (.tup [.ref t1, .ref t2, .ref t3]))) [.ref t1, .ref t2, .ref t3] [(99, 0), (0, 10 ^ 40), (10 ^ 40, 1)] := by
      refine .cons ⟨t1, rfl, u4 _ _ (u3 _ _ (u2 _ _ upd_same))⟩ (.cons ⟨t2, rfl, u4 _ _ (u3 _ _ ?_)⟩ (.cons ⟨t3, rfl, u4 _ _ ?_⟩ .nil))
      · refine upd_same.trans ?_
        show some (HO.tup [V.int 0, V.int ((10 : Int) ^ (40 : Int).toNat)]) = _
        rw [e40]
        rfl
      · refine upd_same.trans ?_
        show some (HO.tup [V.int ((10 : Int) ^ (40 : Int).toNat), V.int 1]) = _
        rw [e40]
        rfl
    have s9 := s8.trans (u1.trans (u2.trans (u3.trans u4)))
    have hX : ∀ x ∈ [(99, 0), (0, 10 ^ 40), (10 ^ 40, 1)], tw n h x.1 x.2 = 0 ∧ x.2 < 2 ^ 200 := by
      have z99 : ∀ l, 99 ≤ l → n / 2 ^ (l * h) = 0 := fun l hl => by
        refine Nat.div_eq_of_lt (Nat.lt_of_lt_of_le (show n < 2 ^ 99 from Nat.lt_of_le_of_lt n200 (by decide)) (Nat.pow_le_pow_right (by decide) ?_))
        exact Nat.le_trans hl (Nat.le_mul_of_pos_right l (by omega))
      have hT : 99 ≤ 10 ^ 40 := by decide
      have hT2 : (10 ^ 40 : Nat) < 2 ^ 200 := by decide
      have hT3 : 200 ≤ 10 ^ 40 := by decide
      generalize 10 ^ 40 = T at hT hT2 hT3
      intro x hx
      simp only [List.mem_cons, List.not_mem_nil, or_false] at hx
      rcases hx with rfl | rfl | rfl
      · refine ⟨?_, by decide⟩
        show min (n / 2 ^ (99 * h) - 0 * 2 ^ h) (2 ^ h) = 0
        rw [z99 99 (Nat.le_refl _), Nat.zero_sub, Nat.zero_min]
      · refine ⟨?_, hT2⟩
        show min (n / 2 ^ (0 * h) - T * 2 ^ h) (2 ^ h) = 0
        rw [Nat.zero_mul, Nat.pow_zero, Nat.div_one]
        have := Nat.le_mul_of_pos_right T m0
        rw [show n - T * 2 ^ h = 0 by omega, Nat.zero_min]
      · refine ⟨?_, by show 1 < 2 ^ 200; decide⟩
        show min (n / 2 ^ (T * h) - 1 * 2 ^ h) (2 ^ h) = 0
        rw [z99 T hT, Nat.zero_sub, Nat.zero_min]
    generalize upd (upd (upd (upd H8 t1 (.tup [.int 99, .int 0])) t2 (.tup [.int 0, .int ((10 : Int) ^ (40 : Int).toNat)])) t3 (.tup [.int ((10 : Int) ^ (40 : Int).toNat), .int 1])) t4 (.tup [.ref t1, .ref t2, .ref t3]) = H9 at ht4 hx s9
    have lx := hx.len
    generalize [V.ref t1, .ref t2, .ref t3] = vs at ht4 hx lx
    have l3 : [((99 : Nat), (0 : Nat)), (0, 10 ^ 40), (10 ^ 40, 1)].length = 3 := rfl
    generalize [((99 : Nat), (0 : Nat)), (0, 10 ^ 40), (10 ^ 40, 1)] = X at hx hX lx l3
    refine ⟨t4, rfl, ⟨_, SqT.of ht4⟩, fun D2 nD2 => lc_tup (xs := vs) (fun i H' => Same H9 H' ∧ H' D2 = some (.lst (List.replicate i (V.int 0)))) ⟨same_upd nD2, upd_same⟩ (fun i H' _ ⟨k, _⟩ => SqT.of (k _ _ ht4)) ?_ ?_⟩
    · rintro i x H10 hi ⟨s10, hD2⟩
      obtain ⟨y, hy, ya, rfl, hya⟩ := hx.nth hi
      have il : i < 3 := by
        have := (List.getElem?_eq_some_iff.mp hy).1
        omega
      obtain ⟨w0, w1⟩ := hX y (List.mem_of_getElem? hy)
      refine ⟨ya, _, rfl, SqT.of (s10 _ _ hya), rfl, _, _, rfl, _, _, rfl, rfl, rfl, ?_⟩
      refine ⟨_, rfl, _, rfl, _, rfl, _, rfl, n, h, y.1, y.2, rfl, n1, n30, h1, h30, w1, fun H11 s11 => ?_⟩
      rw [w0]
      refine ⟨_, s11 _ _ hD2, szlt (by rw [List.length_replicate]; omega), ?_, ?_⟩
      · exact fun a o k => by rw [upd_ne (ne_of_none k nD2)]; exact s11 _ _ (s10 _ _ k)
      · rw [List.replicate_succ']
        exact upd_same
    rintro H10 ⟨s10, hD2⟩
    rw [lx, l3] at hD2
    refine ⟨(by show 1 ≤ sizeLine; decide), fun l5 nl5 => ?_⟩
    have u11 := same_upd (o := .lst [.int 0]) nl5
    refine ⟨l5, _, _, rfl, rfl, upd_same, by decide, by decide, (by show 1 * 3 ≤ sizeLine; decide), fun l6 nl6 => ?_⟩
    have u12 := same_upd (o := .lst [.int 0, .int 0, .int 0]) nl6
    have sh := ints_shaped [0, 0, 0]
    refine ⟨.list ([0, 0, 0].map PyData.int), .list ([0, 0, 0].map PyData.int), .lst (SqL.of (u12 _ _ (u11 _ _ hD2))) (ints_dp [0, 0, 0]), .lst (SqL.of upd_same) (ints_dp [0, 0, 0]), sh, sh, ?_⟩
    rw [SeqAt.eqv_refl _ (SeqAt.canLay_of_shaped sh)]
    exact q _ (s6.trans (s9.trans (s10.trans (u11.trans u12))))
end
end LT

namespace LT
open PySem PySem.Spec PyProof.Rows L2
theorem script_at {ns : List Int} {lo hi : Option Int} {i : Nat} {x : V} (h : (cutV (ns.map V.int) lo hi ++ [.int 0])[i]? = some x) : ∃ c : Int, x = .int c := by
  have m := List.mem_of_getElem? h
  rcases List.mem_append.mp m with m | m
  · unfold cutV at m
    have m2 := List.mem_of_mem_drop (List.mem_of_mem_take m)
    obtain ⟨c, _, e⟩ := List.mem_map.mp m2
    exact ⟨c, e.symm⟩
  · exact ⟨0, List.mem_singleton.mp m⟩
theorem sqSame {K : PySem.W.Frag} {H H' : Hp} {a : Addr} {xs : List V} (h : SqL K H a xs) (e : Same H H') : SqL K H' a xs :=
  h.elim (fun h => .inl (h.elim (fun h => .inl (e _ _ h)) fun ⟨o, h⟩ => .inr ⟨o, e _ _ h⟩)) fun h => .inr h
def spLaw (K : PySem.W.Frag) : Sp := fun vs H Q _ => ∃ (a : Addr) (ns : List Int), vs = [.ref a] ∧ SqL K H a (ns.map V.int) ∧ ns.length ≤ 63 ∧ ∀ H', Q (.bl true) H'
end LT

namespace LT
open PySem PySem.Spec PyProof.Rows L2
section
variable {P : Program} {w : World} {K : PySem.W.Frag} {mg : Str → Option Value} {base : Heap}
theorem ok_law {f g1 g2 g3 g4 g5 g6 : Addr} {fd d1 d2 d3 d4 d5 d6 : FuncData} (F : Fun K "law" "law" sLaw f fd)
    (GLawBag : FnOk P w K mg base CX0 1 g1 d1 ["cell"] spBag) (ALawBag : At K mg "_law_bag" g1 d1 ["cell"])
    (GLawPick : FnOk P w K mg base CX0 1 g2 d2 ["bag", "many"] spPick) (ALawPick : At K mg "_law_pick" g2 d2 ["bag", "many"])
    (GLawSize : FnOk P w K mg base CX0 2 g3 d3 ["bag", "most"] spSizeM) (ALawSize : At K mg "_law_size" g3 d3 ["bag", "most"])
    (GLawRight : GOk P w K mg base 5 g4 d4 ["size", "tall"] spRight) (ALawRight : At K mg "_law_right" g4 d4 ["size", "tall"])
    (GTileCount : FnOk P w K mg base CX0 4 g5 d5 ["size", "height"] spTileCount) (ATileCount : At K mg "tile_count" g5 d5 ["size", "height"])
    (GTileWidth : FnOk P w K mg base CX0 4 g6 d6 ["size", "height", "level", "number"] spTileWidth) (ATileWidth : At K mg "tile_width" g6 d6 ["size", "height", "level", "number"]) (z_range : mg "range" = none) : GOk P w K mg base 6 f fd ["script"] (spLaw K) := by
  refine okG F scLaw (fun vs H Q E h => ?_) (fun cdv A outer s H vs Q hg hr h => ?_)
  · obtain ⟨_, _, rfl, _⟩ := h
    rfl
  obtain ⟨a, ns, rfl, hS, h63, q⟩ := h
  refine' ⟨_, (pss_cons (ps_for PassesOwn.never rfl (pi_list (pe_op op_cat (pe_slice sl_list (pv 0) po_none (po_some pe_int)) (pe_lst (pa_cons pe_int pa_nil)))) (pg_name (i := 1) scLaw.nd rfl (Or.inl rfl))
    (pss_cons (ps_set (i := 2) scLaw.nd rfl (Or.inl rfl) (pe_call GLawBag (hr.mono (by decide)) rfl ALawBag.m ALawBag.kp ALawBag.b .nil pass0 (pa_cons (pv 1) pa_nil)))
    (pss_cons (ps_for PassesOwn.never rfl (pi_range1 (by rfl) z_range (pa_cons pe_int pa_nil)) (pg_name (i := 3) scLaw.nd rfl (Or.inl rfl))
    (pss_one (ps_if (pt_not (pt_val (pe_callG GLawRight hg (hr.mono (by decide)) rfl ALawRight.m ALawRight.kp ALawRight.b (pa_cons (pe_call GLawSize (hr.mono (by decide)) rfl ALawSize.m ALawSize.kp ALawSize.b .nil pass0 (pa_cons (pv 2) (pa_cons pe_int pa_nil))) (pa_cons (pe_op op_add pe_int (pe_call GLawPick (hr.mono (by decide)) rfl ALawPick.m ALawPick.kp ALawPick.b .nil pass0 (pa_cons (pv 2) (pa_cons pe_int pa_nil)))) pa_nil)))))
    (pss_one (ps_ret pe_bl))
    pss_nil)))
    (pss_one (ps_if (pt_not (pt_val (pe_callG GLawRight hg (hr.mono (by decide)) rfl ALawRight.m ALawRight.kp ALawRight.b (pa_cons (pe_call GLawSize (hr.mono (by decide)) rfl ALawSize.m ALawSize.kp ALawSize.b .nil pass0 (pa_cons (pv 2) (pa_cons pe_int pa_nil))) (pa_cons (pe_op op_add pe_int (pe_call GLawPick (hr.mono (by decide)) rfl ALawPick.m ALawPick.kp ALawPick.b .nil pass0 (pa_cons (pv 2) (pa_cons pe_int pa_nil)))) pa_nil)))))
    (pss_one (ps_ret pe_bl))
    pss_nil)))))
    (pss_one (ps_ret (pe_and (pe_cmpR (op_eqD hr.units) (pe_call GTileCount (hr.mono (by decide)) rfl ATileCount.m ATileCount.kp ATileCount.b .nil pass0 (pa_cons pe_int (pa_cons pe_int pa_nil))) (pe_tup (pa_cons pe_int (pa_cons pe_int pa_nil))) (nomark _)) (pe_one (pe_cmpR (op_eqD hr.units) (pe_lc (own := [("number", 4)]) rfl scLaw.nd (pi_tup (pe_tup (pa_cons pe_int (pa_cons pe_int (pa_cons pe_int pa_nil))))) (blkOk_by (N := ["script", "cell", "bag", "turn", "number"]) (sc := defScope sLaw) (by decide +kernel)) (fun _ _ _ _ _ => (pg_name (i := 4) scLaw.nd rfl (Or.inl rfl))) (fun _ _ _ _ _ => pts_nil) (fun _ _ _ _ _ => (pe_call GTileWidth (hr.mono (by decide)) rfl ATileWidth.m ATileWidth.kp ATileWidth.b .nil pass0 (pa_cons pe_int (pa_cons pe_int (pa_cons pe_int (pa_cons (pv 4) pa_nil))))))) (pe_lst (pa_cons pe_int (pa_cons pe_int (pa_cons pe_int pa_nil)))) (nomark _))))))), ?_⟩
  have two : 2 ≤ sizeLine := by decide
  have three : 3 ≤ sizeLine := by decide
  refine ⟨_, rfl, 6, rfl, a, _, rfl, hS, fun c nc => ⟨(by show 1 ≤ sizeLine; decide), fun z nz => ?_⟩⟩
  have s1 := same_upd (o := .lst (cutV (ns.map V.int) none (some 6))) nc
  have s2 := same_upd (o := .lst [.int 0]) nz
  have hcl := cutV_length (ns.map V.int) none (some 6)
  rw [List.length_map] at hcl
  refine ⟨c, z, _, _, rfl, rfl, s2 _ _ upd_same, upd_same, szle (by rw [List.length_singleton]; omega), fun r nr => ?_⟩
  have s3 := same_upd (o := .lst (cutV (ns.map V.int) none (some 6) ++ [.int 0])) nr
  have hr0 : (upd (upd (upd H c (.lst (cutV (ns.map V.int) none (some 6)))) z (.lst [.int 0])) r (.lst (cutV (ns.map V.int) none (some 6) ++ [.int 0]))) r = some (.lst (cutV (ns.map V.int) none (some 6) ++ [.int 0])) := upd_same
  generalize upd (upd (upd H c (.lst (cutV (ns.map V.int) none (some 6)))) z (.lst [.int 0])) r (.lst (cutV (ns.map V.int) none (some 6) ++ [.int 0])) = H0 at hr0
  refine ⟨r, rfl, ⟨_, SqL.of hr0⟩, for_list (K := K) (a := r) (xs := cutV (ns.map V.int) none (some 6) ++ [.int 0]) (fun i σ H' => ∃ v1 v2 v3 : Option V, σ = [some (.ref a), v1, v2, v3, none] ∧ Same H0 H')
    ⟨none, none, none, rfl, Same.refl _⟩ (fun i σ H' _ ⟨_, _, _, _, s5⟩ => SqL.of (s5 _ _ hr0)) ?_ ?_⟩
  · rintro i x σ H1 hi ⟨v1, v2, v3, rfl, sm1⟩
    obtain ⟨cell, rfl⟩ := script_at hi
    refine ⟨_, rfl, cell, rfl, fun H2 b sm2 nb hb => ?_⟩
    have nb0 : H0 b = none := sm1.free nb
    have B2 : But b H0 H2 := But.of (sm1.trans sm2)
    refine ⟨4, rfl, by decide, by decide, for_range (lo := 0) (n := 4) (fun i σ H' => ∃ v3 : Option V, σ = [some (.ref a), some (.int cell), some (.ref b), v3, none] ∧ But b H0 H' ∧ BagAt H' b)
      ⟨v3, rfl, B2, hb⟩ ?_ ?_⟩
    · rintro j σ H3 hj ⟨v3, rfl, B3, b3⟩
      refine ⟨_, rfl, b, 200, rfl, by decide, by decide, b3, fun n H4 n1 n2 B4 b4 => ?_⟩
      refine ⟨_, rfl, b, 5, rfl, by decide, by decide, b4, fun pk H5 p0 p1 k5 b5 => ⟨_, _, rfl, rfl, ?_⟩⟩
      obtain ⟨pn, rfl⟩ := Int.eq_ofNat_of_zero_le p0
      refine ⟨n, 1 + pn, rfl, n1, n2, by omega, by omega, fun H6 s6 => ⟨true, rfl, ?_⟩⟩
      exact ⟨_, rfl, ((B3.trans B4).pick k5).same s6, b5.same s6⟩
    · rintro σ H3 ⟨v3, rfl, B3, b3⟩
      refine ⟨_, rfl, b, 40, rfl, by decide, by decide, b3, fun n H4 n1 n2 B4 b4 => ?_⟩
      refine ⟨_, rfl, b, 25, rfl, by decide, by decide, b4, fun pk H5 p0 p1 k5 b5 => ⟨_, _, rfl, rfl, ?_⟩⟩
      obtain ⟨pn, rfl⟩ := Int.eq_ofNat_of_zero_le p0
      refine ⟨n, 6 + pn, rfl, n1, by omega, by omega, by omega, fun H6 s6 => ⟨true, rfl, ?_⟩⟩
      have B6 := ((B3.trans B4).pick k5).same s6
      exact ⟨_, _, _, rfl, fun u o k => B6 u o (ne_of_none k nb0) k⟩
  · rintro σ H1 ⟨v1, v2, v3, rfl, sm1⟩
    have t7 : tAll 2 7 = 3 ∧ tFull 2 7 = 1 := by
      have e1 : 7 / 2 ^ 2 = 1 := by decide
      have e2 : 1 / 2 ^ 2 = 0 := by decide
      constructor
      · rw [tAll_step (by decide) (by decide), e1, tAll_step (by decide) (by decide), e2, tAll_zero]
        decide
      · rw [tFull_step (by decide) (by decide), e1, tFull_step (by decide) (by decide), e2, tFull_zero]
    refine ⟨7, 2, rfl, by decide, by decide, by decide, by decide, fun H2 p s2' np hp => ⟨two, fun t nt => ?_⟩⟩
    have u3 := same_upd (o := .tup [.int 3, .int 1]) nt
    rw [t7.1, t7.2] at hp
    refine ⟨_, _, (hp.same u3).dp, .tup (SqT.of upd_same) (.cons (.int _) (.cons (.int _) .nil)), nd_shaped _ _, nd_shaped _ _, true, congrArg V.bl (SeqAt.eqv_refl _ (SeqAt.canLay_of_shaped (nd_shaped _ _))), ?_⟩
    refine ⟨three, fun t2 nt2 => ?_⟩
    have ht2 : (upd (upd H2 t (.tup [.int 3, .int 1])) t2 (.tup [.int 0, .int 1, .int 2])) t2 = some (.tup ([0, 1, 2].map fun x : Nat => V.int (x : Int))) := upd_same
    generalize upd (upd H2 t (.tup [.int 3, .int 1])) t2 (.tup [.int 0, .int 1, .int 2]) = H3 at ht2
    refine ⟨t2, rfl, ⟨_, SqT.of ht2⟩, fun D nD => lc_tup (xs := [0, 1, 2].map fun x : Nat => V.int (x : Int)) (fun i H' => Same H3 H' ∧ H' D = some (.lst ((([0, 1, 2].take i).map fun k => ((tw 7 2 0 k : Nat) : Int)).map V.int))) ⟨same_upd nD, upd_same⟩ (fun i H' _ ⟨k, _⟩ => SqT.of (k _ _ ht2)) ?_ ?_⟩
    · rintro i x H4 hi ⟨s4, hD⟩
      rw [List.getElem?_map] at hi
      obtain ⟨k, hk, rfl⟩ := Option.map_eq_some_iff.mp hi
      have kb : k < 2 ^ 200 := by
        have := List.mem_of_getElem? hk
        simp only [List.mem_cons, List.not_mem_nil, or_false] at this
        rcases this with rfl | rfl | rfl <;> decide
      refine ⟨rfl, ?_⟩
      refine ⟨_, rfl, 7, 2, 0, k, rfl, by decide, by decide, by decide, by decide, kb, fun H5 s5 => ?_⟩
      refine ⟨_, s5 _ _ hD, szlt (by rw [List.length_map, List.length_map]; exact Nat.lt_of_le_of_lt (List.length_take_le' _ _) (by decide)), ?_, ?_⟩
      · exact fun u o k => by rw [upd_ne (ne_of_none k nD)]; exact s5 _ _ (s4 _ _ k)
      · rw [take_more hk, List.map_append, List.map_append]
        exact upd_same
    rintro H4 ⟨s4, hD⟩
    have eL : ((([0, 1, 2].take ([0, 1, 2].map fun x : Nat => V.int (x : Int)).length).map fun k => ((tw 7 2 0 k : Nat) : Int))) = [4, 3, 0] := by decide +kernel
    rw [eL] at hD
    refine ⟨three, fun l nl => ?_⟩
    have u5 := same_upd (o := .lst [.int 4, .int 3, .int 0]) nl
    have sh := ints_shaped [4, 3, 0]
    refine ⟨.list ([4, 3, 0].map PyData.int), .list ([4, 3, 0].map PyData.int), .lst (SqL.of (u5 _ _ hD)) (ints_dp [4, 3, 0]), .lst (SqL.of upd_same) (ints_dp [4, 3, 0]), sh, sh, ?_⟩
    rw [SeqAt.eqv_refl _ (SeqAt.canLay_of_shaped sh)]
    exact q _
end
end LT

namespace LT
open PySem PySem.Spec PyProof.Rows L2
theorem all_mk {l : PySem.W.OpenLaw} {w : World} {K : PySem.W.Frag} {h : Heap} {mg : Str → Option Value} {fa f0 f1 f2 f3 f4 f5 f6 f7 f8 f9 f10 f11 f12 f13 f14 : Addr} (X : K.In h) (G : h.Ns mainGlobals mg) (hfa : mg "law" = some (.ref fa))
    {od0 an0 od1 an1 od2 an2 od3 an3 od4 an4 od5 an5 od6 an6 od7 an7 od8 an8 od9 an9 od10 an10 od11 an11 od12 an12 od13 an13 od14 an14 : Option Addr} {sl0 sl1 sl2 sl3 sl4 sl5 sl6 sl7 sl8 sl9 sl10 sl11 sl12 sl13 sl14 : Array (Option Value)} {oc0 kV0 dc0 pm0 cd0 ct0 oc1 kV1 dc1 pm1 cd1 ct1 oc2 kV2 dc2 pm2 cd2 ct2 oc3 kV3 dc3 pm3 cd3 ct3 oc4 kV4 dc4 pm4 cd4 ct4 oc5 kV5 dc5 pm5 cd5 ct5 oc6 kV6 dc6 pm6 cd6 ct6 oc7 kV7 dc7 pm7 cd7 ct7 oc8 kV8 dc8 pm8 cd8 ct8 oc9 kV9 dc9 pm9 cd9 ct9 oc10 kV10 dc10 pm10 cd10 ct10 oc11 kV11 dc11 pm11 cd11 ct11 oc12 kV12 dc12 pm12 cd12 ct12 oc13 kV13 dc13 pm13 cd13 ct13 oc14 kV14 dc14 pm14 cd14 ct14 : Value}
    (a0 : PySem.W.nsIn K mainGlobals "is_whole" = some (some (.ref f0))) (l0 : K.lookup f0 = some ⟨oc0, od0, .func (PySem.W.fnOf "is_whole" "is_whole" (defArgs sIsWhole) (defBody sIsWhole) (defScope sIsWhole) .none kV0 dc0 pm0 an0 cd0 ct0), sl0⟩) (c0 : PySem.W.codeIn K cd0 "is_whole" = true) (k0 : PySem.W.keepIn K (.ref f0) = true)
    (a1 : PySem.W.nsIn K mainGlobals "is_between" = some (some (.ref f1))) (l1 : K.lookup f1 = some ⟨oc1, od1, .func (PySem.W.fnOf "is_between" "is_between" (defArgs sIsBetween) (defBody sIsBetween) (defScope sIsBetween) .none kV1 dc1 pm1 an1 cd1 ct1), sl1⟩) (c1 : PySem.W.codeIn K cd1 "is_between" = true) (k1 : PySem.W.keepIn K (.ref f1) = true)
    (a2 : PySem.W.nsIn K mainGlobals "check_size" = some (some (.ref f2))) (l2 : K.lookup f2 = some ⟨oc2, od2, .func (PySem.W.fnOf "check_size" "check_size" (defArgs sCheckSize) (defBody sCheckSize) (defScope sCheckSize) .none kV2 dc2 pm2 an2 cd2 ct2), sl2⟩) (c2 : PySem.W.codeIn K cd2 "check_size" = true) (k2 : PySem.W.keepIn K (.ref f2) = true)
    (a3 : PySem.W.nsIn K mainGlobals "check_number_from" = some (some (.ref f3))) (l3 : K.lookup f3 = some ⟨oc3, od3, .func (PySem.W.fnOf "check_number_from" "check_number_from" (defArgs sCheckNumberFrom) (defBody sCheckNumberFrom) (defScope sCheckNumberFrom) .none kV3 dc3 pm3 an3 cd3 ct3), sl3⟩) (c3 : PySem.W.codeIn K cd3 "check_number_from" = true) (k3 : PySem.W.keepIn K (.ref f3) = true)
    (a4 : PySem.W.nsIn K mainGlobals "check_height" = some (some (.ref f4))) (l4 : K.lookup f4 = some ⟨oc4, od4, .func (PySem.W.fnOf "check_height" "check_height" (defArgs sCheckHeight) (defBody sCheckHeight) (defScope sCheckHeight) .none kV4 dc4 pm4 an4 cd4 ct4), sl4⟩) (c4 : PySem.W.codeIn K cd4 "check_height" = true) (k4 : PySem.W.keepIn K (.ref f4) = true)
    (a5 : PySem.W.nsIn K mainGlobals "_kept_counts" = some (some (.ref f5))) (l5 : K.lookup f5 = some ⟨oc5, od5, .func (PySem.W.fnOf "_kept_counts" "_kept_counts" (defArgs sKeptCounts) (defBody sKeptCounts) (defScope sKeptCounts) .none kV5 dc5 pm5 an5 cd5 ct5), sl5⟩) (c5 : PySem.W.codeIn K cd5 "_kept_counts" = true) (k5 : PySem.W.keepIn K (.ref f5) = true)
    (a6 : PySem.W.nsIn K mainGlobals "_tiles_for" = some (some (.ref f6))) (l6 : K.lookup f6 = some ⟨oc6, od6, .func (PySem.W.fnOf "_tiles_for" "_tiles_for" (defArgs sTilesFor) (defBody sTilesFor) (defScope sTilesFor) .none kV6 dc6 pm6 an6 cd6 ct6), sl6⟩) (c6 : PySem.W.codeIn K cd6 "_tiles_for" = true) (k6 : PySem.W.keepIn K (.ref f6) = true)
    (a7 : PySem.W.nsIn K mainGlobals "tile_count" = some (some (.ref f7))) (l7 : K.lookup f7 = some ⟨oc7, od7, .func (PySem.W.fnOf "tile_count" "tile_count" (defArgs sTileCount) (defBody sTileCount) (defScope sTileCount) .none kV7 dc7 pm7 an7 cd7 ct7), sl7⟩) (c7 : PySem.W.codeIn K cd7 "tile_count" = true) (k7 : PySem.W.keepIn K (.ref f7) = true)
    (a8 : PySem.W.nsIn K mainGlobals "tile_width" = some (some (.ref f8))) (l8 : K.lookup f8 = some ⟨oc8, od8, .func (PySem.W.fnOf "tile_width" "tile_width" (defArgs sTileWidth) (defBody sTileWidth) (defScope sTileWidth) .none kV8 dc8 pm8 an8 cd8 ct8), sl8⟩) (c8 : PySem.W.codeIn K cd8 "tile_width" = true) (k8 : PySem.W.keepIn K (.ref f8) = true)
    (a9 : PySem.W.nsIn K mainGlobals "_law_bag" = some (some (.ref f9))) (l9 : K.lookup f9 = some ⟨oc9, od9, .func (PySem.W.fnOf "_law_bag" "_law_bag" (defArgs sLawBag) (defBody sLawBag) (defScope sLawBag) .none kV9 dc9 pm9 an9 cd9 ct9), sl9⟩) (c9 : PySem.W.codeIn K cd9 "_law_bag" = true) (k9 : PySem.W.keepIn K (.ref f9) = true)
    (a10 : PySem.W.nsIn K mainGlobals "_law_pick" = some (some (.ref f10))) (l10 : K.lookup f10 = some ⟨oc10, od10, .func (PySem.W.fnOf "_law_pick" "_law_pick" (defArgs sLawPick) (defBody sLawPick) (defScope sLawPick) .none kV10 dc10 pm10 an10 cd10 ct10), sl10⟩) (c10 : PySem.W.codeIn K cd10 "_law_pick" = true) (k10 : PySem.W.keepIn K (.ref f10) = true)
    (a11 : PySem.W.nsIn K mainGlobals "_law_size" = some (some (.ref f11))) (l11 : K.lookup f11 = some ⟨oc11, od11, .func (PySem.W.fnOf "_law_size" "_law_size" (defArgs sLawSize) (defBody sLawSize) (defScope sLawSize) .none kV11 dc11 pm11 an11 cd11 ct11), sl11⟩) (c11 : PySem.W.codeIn K cd11 "_law_size" = true) (k11 : PySem.W.keepIn K (.ref f11) = true)
    (a12 : PySem.W.nsIn K mainGlobals "_law_widths" = some (some (.ref f12))) (l12 : K.lookup f12 = some ⟨oc12, od12, .func (PySem.W.fnOf "_law_widths" "_law_widths" (defArgs sLawWidths) (defBody sLawWidths) (defScope sLawWidths) .none kV12 dc12 pm12 an12 cd12 ct12), sl12⟩) (c12 : PySem.W.codeIn K cd12 "_law_widths" = true) (k12 : PySem.W.keepIn K (.ref f12) = true)
    (a13 : PySem.W.nsIn K mainGlobals "_law_right" = some (some (.ref f13))) (l13 : K.lookup f13 = some ⟨oc13, od13, .func (PySem.W.fnOf "_law_right" "_law_right" (defArgs sLawRight) (defBody sLawRight) (defScope sLawRight) .none kV13 dc13 pm13 an13 cd13 ct13), sl13⟩) (c13 : PySem.W.codeIn K cd13 "_law_right" = true) (k13 : PySem.W.keepIn K (.ref f13) = true)
    (a14 : PySem.W.nsIn K mainGlobals "law" = some (some (.ref f14))) (l14 : K.lookup f14 = some ⟨oc14, od14, .func (PySem.W.fnOf "law" "law" (defArgs sLaw) (defBody sLaw) (defScope sLaw) .none kV14 dc14 pm14 an14 cd14 ct14), sl14⟩) (c14 : PySem.W.codeIn K cd14 "law" = true) (k14 : PySem.W.keepIn K (.ref f14) = true)
    (z_bool : PySem.W.nsIn K mainGlobals "bool" = some none)
    (z_int : PySem.W.nsIn K mainGlobals "int" = some none)
    (z_isinstance : PySem.W.nsIn K mainGlobals "isinstance" = some none)
    (z_len : PySem.W.nsIn K mainGlobals "len" = some none)
    (z_max : PySem.W.nsIn K mainGlobals "max" = some none)
    (z_min : PySem.W.nsIn K mainGlobals "min" = some none)
    (z_range : PySem.W.nsIn K mainGlobals "range" = some none)
    (z_repr : PySem.W.nsIn K mainGlobals "repr" = some none)
    (z_sum : PySem.W.nsIn K mainGlobals "sum" = some none)
    {t_MOST_ENTRIES : Tok} (g_MOST_ENTRIES : PySem.W.nsIn K mainGlobals "MOST_ENTRIES" = some (some (.int 1000000000000000000000000000000 t_MOST_ENTRIES)))
    {t_MOST_HEIGHT : Tok} (g_MOST_HEIGHT : PySem.W.nsIn K mainGlobals "MOST_HEIGHT" = some (some (.int 30 t_MOST_HEIGHT)))
    : ∃ fd : FuncData, (∀ (s : Shared) (v : Value), BindsTo s fd ⟨[v], []⟩ [("script", v)]) ∧ ∀ base : Heap, K.In base → base.Ns mainGlobals mg → GOk l.prog w K mg base 6 fa fd ["script"] (spLaw K) := by
  have e := hfa.symm.trans (PySem.W.mg_of X G a14)
  cases e
  have FIsWhole := fun_mk (st := sIsWhole) l0 c0 k0
  have FIsBetween := fun_mk (st := sIsBetween) l1 c1 k1
  have FCheckSize := fun_mk (st := sCheckSize) l2 c2 k2
  have FCheckNumberFrom := fun_mk (st := sCheckNumberFrom) l3 c3 k3
  have FCheckHeight := fun_mk (st := sCheckHeight) l4 c4 k4
  have FKeptCounts := fun_mk (st := sKeptCounts) l5 c5 k5
  have FTilesFor := fun_mk (st := sTilesFor) l6 c6 k6
  have FTileCount := fun_mk (st := sTileCount) l7 c7 k7
  have FTileWidth := fun_mk (st := sTileWidth) l8 c8 k8
  have FLawBag := fun_mk (st := sLawBag) l9 c9 k9
  have FLawPick := fun_mk (st := sLawPick) l10 c10 k10
  have FLawSize := fun_mk (st := sLawSize) l11 c11 k11
  have FLawWidths := fun_mk (st := sLawWidths) l12 c12 k12
  have FLawRight := fun_mk (st := sLawRight) l13 c13 k13
  have FLaw := fun_mk (st := sLaw) l14 c14 k14
  have AIsWhole : At K mg "is_whole" f0 (PySem.W.fnOf "is_whole" "is_whole" (defArgs sIsWhole) (defBody sIsWhole) (defScope sIsWhole) .none kV0 dc0 pm0 an0 cd0 ct0) ["value"] := ⟨PySem.W.mg_of X G a0, k0, FIsWhole.binds (ps := ["value"]) fun _ _ _ _ _ _ us hl => match us, hl with | [_], _ => rfl⟩
  have AIsBetween : At K mg "is_between" f1 (PySem.W.fnOf "is_between" "is_between" (defArgs sIsBetween) (defBody sIsBetween) (defScope sIsBetween) .none kV1 dc1 pm1 an1 cd1 ct1) ["value", "low", "high"] := ⟨PySem.W.mg_of X G a1, k1, FIsBetween.binds (ps := ["value", "low", "high"]) fun _ _ _ _ _ _ us hl => match us, hl with | [_, _, _], _ => rfl⟩
  have ACheckSize : At K mg "check_size" f2 (PySem.W.fnOf "check_size" "check_size" (defArgs sCheckSize) (defBody sCheckSize) (defScope sCheckSize) .none kV2 dc2 pm2 an2 cd2 ct2) ["size"] := ⟨PySem.W.mg_of X G a2, k2, FCheckSize.binds (ps := ["size"]) fun _ _ _ _ _ _ us hl => match us, hl with | [_], _ => rfl⟩
  have ACheckNumberFrom : At K mg "check_number_from" f3 (PySem.W.fnOf "check_number_from" "check_number_from" (defArgs sCheckNumberFrom) (defBody sCheckNumberFrom) (defScope sCheckNumberFrom) .none kV3 dc3 pm3 an3 cd3 ct3) ["number", "least"] := ⟨PySem.W.mg_of X G a3, k3, FCheckNumberFrom.binds (ps := ["number", "least"]) fun _ _ _ _ _ _ us hl => match us, hl with | [_, _], _ => rfl⟩
  have ACheckHeight : At K mg "check_height" f4 (PySem.W.fnOf "check_height" "check_height" (defArgs sCheckHeight) (defBody sCheckHeight) (defScope sCheckHeight) .none kV4 dc4 pm4 an4 cd4 ct4) ["height"] := ⟨PySem.W.mg_of X G a4, k4, FCheckHeight.binds (ps := ["height"]) fun _ _ _ _ _ _ us hl => match us, hl with | [_], _ => rfl⟩
  have AKeptCounts : At K mg "_kept_counts" f5 (PySem.W.fnOf "_kept_counts" "_kept_counts" (defArgs sKeptCounts) (defBody sKeptCounts) (defScope sKeptCounts) .none kV5 dc5 pm5 an5 cd5 ct5) ["size", "height"] := ⟨PySem.W.mg_of X G a5, k5, FKeptCounts.binds (ps := ["size", "height"]) fun _ _ _ _ _ _ us hl => match us, hl with | [_, _], _ => rfl⟩
  have ATilesFor : At K mg "_tiles_for" f6 (PySem.W.fnOf "_tiles_for" "_tiles_for" (defArgs sTilesFor) (defBody sTilesFor) (defScope sTilesFor) .none kV6 dc6 pm6 an6 cd6 ct6) ["count", "height"] := ⟨PySem.W.mg_of X G a6, k6, FTilesFor.binds (ps := ["count", "height"]) fun _ _ _ _ _ _ us hl => match us, hl with | [_, _], _ => rfl⟩
  have ATileCount : At K mg "tile_count" f7 (PySem.W.fnOf "tile_count" "tile_count" (defArgs sTileCount) (defBody sTileCount) (defScope sTileCount) .none kV7 dc7 pm7 an7 cd7 ct7) ["size", "height"] := ⟨PySem.W.mg_of X G a7, k7, FTileCount.binds (ps := ["size", "height"]) fun _ _ _ _ _ _ us hl => match us, hl with | [_, _], _ => rfl⟩
  have ATileWidth : At K mg "tile_width" f8 (PySem.W.fnOf "tile_width" "tile_width" (defArgs sTileWidth) (defBody sTileWidth) (defScope sTileWidth) .none kV8 dc8 pm8 an8 cd8 ct8) ["size", "height", "level", "number"] := ⟨PySem.W.mg_of X G a8, k8, FTileWidth.binds (ps := ["size", "height", "level", "number"]) fun _ _ _ _ _ _ us hl => match us, hl with | [_, _, _, _], _ => rfl⟩
  have ALawBag : At K mg "_law_bag" f9 (PySem.W.fnOf "_law_bag" "_law_bag" (defArgs sLawBag) (defBody sLawBag) (defScope sLawBag) .none kV9 dc9 pm9 an9 cd9 ct9) ["cell"] := ⟨PySem.W.mg_of X G a9, k9, FLawBag.binds (ps := ["cell"]) fun _ _ _ _ _ _ us hl => match us, hl with | [_], _ => rfl⟩
  have ALawPick : At K mg "_law_pick" f10 (PySem.W.fnOf "_law_pick" "_law_pick" (defArgs sLawPick) (defBody sLawPick) (defScope sLawPick) .none kV10 dc10 pm10 an10 cd10 ct10) ["bag", "many"] := ⟨PySem.W.mg_of X G a10, k10, FLawPick.binds (ps := ["bag", "many"]) fun _ _ _ _ _ _ us hl => match us, hl with | [_, _], _ => rfl⟩
  have ALawSize : At K mg "_law_size" f11 (PySem.W.fnOf "_law_size" "_law_size" (defArgs sLawSize) (defBody sLawSize) (defScope sLawSize) .none kV11 dc11 pm11 an11 cd11 ct11) ["bag", "most"] := ⟨PySem.W.mg_of X G a11, k11, FLawSize.binds (ps := ["bag", "most"]) fun _ _ _ _ _ _ us hl => match us, hl with | [_, _], _ => rfl⟩
  have ALawWidths : At K mg "_law_widths" f12 (PySem.W.fnOf "_law_widths" "_law_widths" (defArgs sLawWidths) (defBody sLawWidths) (defScope sLawWidths) .none kV12 dc12 pm12 an12 cd12 ct12) ["size", "tall"] := ⟨PySem.W.mg_of X G a12, k12, FLawWidths.binds (ps := ["size", "tall"]) fun _ _ _ _ _ _ us hl => match us, hl with | [_, _], _ => rfl⟩
  have ALawRight : At K mg "_law_right" f13 (PySem.W.fnOf "_law_right" "_law_right" (defArgs sLawRight) (defBody sLawRight) (defScope sLawRight) .none kV13 dc13 pm13 an13 cd13 ct13) ["size", "tall"] := ⟨PySem.W.mg_of X G a13, k13, FLawRight.binds (ps := ["size", "tall"]) fun _ _ _ _ _ _ us hl => match us, hl with | [_, _], _ => rfl⟩
  have z_bool := PySem.W.mg_none_of X G z_bool
  have z_int := PySem.W.mg_none_of X G z_int
  have z_isinstance := PySem.W.mg_none_of X G z_isinstance
  have z_len := PySem.W.mg_none_of X G z_len
  have z_max := PySem.W.mg_none_of X G z_max
  have z_min := PySem.W.mg_none_of X G z_min
  have z_range := PySem.W.mg_none_of X G z_range
  have z_repr := PySem.W.mg_none_of X G z_repr
  have z_sum := PySem.W.mg_none_of X G z_sum
  have g_MOST_ENTRIES := PySem.W.mg_of X G g_MOST_ENTRIES
  have g_MOST_HEIGHT := PySem.W.mg_of X G g_MOST_HEIGHT
  refine ⟨PySem.W.fnOf "law" "law" (defArgs sLaw) (defBody sLaw) (defScope sLaw) .none kV14 dc14 pm14 an14 cd14 ct14, fun s v => .of_eq rfl, fun base _ _ => ?_⟩
  have GIsWhole := ok_is_whole (P := l.prog) (w := w) (base := base) FIsWhole z_isinstance z_int z_bool
  have GIsBetween := ok_is_between FIsBetween GIsWhole AIsWhole
  have GCheckSize := ok_check_size FCheckSize GIsBetween AIsBetween g_MOST_ENTRIES
  have GCheckNumberFrom := ok_check_number_from FCheckNumberFrom GIsWhole AIsWhole
  have GCheckHeight := ok_check_height FCheckHeight GIsBetween AIsBetween g_MOST_HEIGHT
  have GKeptCounts := ok_kept_counts (P := l.prog) (w := w) (mg := mg) (base := base) FKeptCounts
  have GTilesFor := ok_tiles_for (P := l.prog) (w := w) (mg := mg) (base := base) FTilesFor
  have GTileCount := ok_tile_count FTileCount GCheckSize ACheckSize GCheckHeight ACheckHeight GKeptCounts AKeptCounts GTilesFor ATilesFor z_sum
  have GTileWidth := ok_tile_width FTileWidth GCheckSize ACheckSize GCheckHeight ACheckHeight GKeptCounts AKeptCounts GCheckNumberFrom ACheckNumberFrom z_len z_max z_min
  have GLawBag := ok_law_bag (P := l.prog) (w := w) (base := base) FLawBag z_max
  have GLawPick := ok_law_pick (P := l.prog) (w := w) (base := base) FLawPick z_int
  have GLawSize := ok_law_sizeM FLawSize GLawPick ALawPick z_max z_min z_sum z_range
  have GLawWidths := ok_law_widths (P := l.prog) (w := w) (base := base) FLawWidths z_range
  have GLawRight := ok_law_right FLawRight GTileWidth ATileWidth GTileCount ATileCount GLawWidths ALawWidths z_len z_repr
  exact ok_law FLaw GLawBag ALawBag GLawPick ALawPick GLawSize ALawSize GLawRight ALawRight GTileCount ATileCount GTileWidth ATileWidth z_range
end LT
open PySem PySem.W PyProof.Rows
set_option maxRecDepth 100000 in
set_option maxHeartbeats 0 in
theorem PySem.Challenge.cw_logtrees_k27_tiles_by_listing_holds : PySem.Challenge.rw_logtrees_k27_tiles_by_listing.Holds := by
  w_on; o_law; k_head; (case hw => w_witness2)
  k_fill
  refine LT.walkG (l := PySem.Challenge.rw_logtrees_k27_tiles_by_listing) (n := 63) (k := 6) (x := "script") (sp := fun w => LT.spLaw _) rfl (by decide) rfl ⟨rfl, by decide, by decide⟩ (fun w h Y => PySem.W.kIn_of Y) ?F (fun _ _ a ns hl _ hS => ⟨a, ns, rfl, hS, hl, fun _ => rfl⟩)
  case F =>
    intro w mg fa h KX G hmg
    refine' LT.all_mk KX G hmg ?a0 ?l0 ?c0 ?k0 ?a1 ?l1 ?c1 ?k1 ?a2 ?l2 ?c2 ?k2 ?a3 ?l3 ?c3 ?k3 ?a4 ?l4 ?c4 ?k4 ?a5 ?l5 ?c5 ?k5 ?a6 ?l6 ?c6 ?k6 ?a7 ?l7 ?c7 ?k7 ?a8 ?l8 ?c8 ?k8 ?a9 ?l9 ?c9 ?k9 ?a10 ?l10 ?c10 ?k10 ?a11 ?l11 ?c11 ?k11 ?a12 ?l12 ?c12 ?k12 ?a13 ?l13 ?c13 ?k13 ?a14 ?l14 ?c14 ?k14 ?z_bool ?z_int ?z_isinstance ?z_len ?z_max ?z_min ?z_range ?z_repr ?z_sum ?g_MOST_ENTRIES ?g_MOST_HEIGHT
    (case a0 => k_is)
    (case l0 => k_is)
    (case c0 => k_is)
    (case k0 => k_is)
    (case a1 => k_is)
    (case l1 => k_is)
    (case c1 => k_is)
    (case k1 => k_is)
    (case a2 => k_is)
    (case l2 => k_is)
    (case c2 => k_is)
    (case k2 => k_is)
    (case a3 => k_is)
    (case l3 => k_is)
    (case c3 => k_is)
    (case k3 => k_is)
    (case a4 => k_is)
    (case l4 => k_is)
    (case c4 => k_is)
    (case k4 => k_is)
    (case a5 => k_is)
    (case l5 => k_is)
    (case c5 => k_is)
    (case k5 => k_is)
    (case a6 => k_is)
    (case l6 => k_is)
    (case c6 => k_is)
    (case k6 => k_is)
    (case a7 => k_is)
    (case l7 => k_is)
    (case c7 => k_is)
    (case k7 => k_is)
    (case a8 => k_is)
    (case l8 => k_is)
    (case c8 => k_is)
    (case k8 => k_is)
    (case a9 => k_is)
    (case l9 => k_is)
    (case c9 => k_is)
    (case k9 => k_is)
    (case a10 => k_is)
    (case l10 => k_is)
    (case c10 => k_is)
    (case k10 => k_is)
    (case a11 => k_is)
    (case l11 => k_is)
    (case c11 => k_is)
    (case k11 => k_is)
    (case a12 => k_is)
    (case l12 => k_is)
    (case c12 => k_is)
    (case k12 => k_is)
    (case a13 => k_is)
    (case l13 => k_is)
    (case c13 => k_is)
    (case k13 => k_is)
    (case a14 => k_is)
    (case l14 => k_is)
    (case c14 => k_is)
    (case k14 => k_is)
    (case z_bool => k_is)
    (case z_int => k_is)
    (case z_isinstance => k_is)
    (case z_len => k_is)
    (case z_max => k_is)
    (case z_min => k_is)
    (case z_range => k_is)
    (case z_repr => k_is)
    (case z_sum => k_is)
    (case g_MOST_ENTRIES => k_is)
    (case g_MOST_HEIGHT => k_is)
