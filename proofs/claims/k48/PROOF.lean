import PyProof.Rows.All
import Wide.All
import OpenK.AllK
import Wide.FinOn
import HandS.ForMost
import HandS.Wide
import HandS.WideBits
import HandS.IsInst
import HandS.Style
import HandS.Deep
import HandS.RaiseMore
import HandS.Conv
import HandS.Flow
import HandS.SortRule
import HandS.Exc
import HandS.ExcOwn
import HandS.ExcValue
import HandS.ExcIs
import HandS.WordsExc
import HandS.NoneIn
import KE.DataMinMax
import KE.SortData
import HandS.FStr
import HandS.ExcInit
import HandS.ExcSuper
import HandS.ExcField
import HandS.ClsMeth
import KE.KExcSuper
import PyProof.ReprRoads
import PyProof.Rows.NestShow
import PySem.Challenge.RW_logtrees_k48_errors_made
set_option Elab.async false
set_option linter.all false
set_option maxRecDepth 100000
set_option maxHeartbeats 4000000
namespace LT
/-- the greatest power of two less than m (m from 2) -/
def gp (m : Nat) : Nat := 2 ^ Nat.log2 (m - 1)
theorem gp_pos (m : Nat) : 0 < gp m := Nat.pow_pos (by decide)
theorem gp_lt {m : Nat} (h : 2 ≤ m) : gp m < m := by
  have := Nat.log2_self_le (n := m - 1) (by omega)
  unfold gp; omega
theorem gp_ge {m : Nat} (h : 2 ≤ m) : m ≤ 2 * gp m := by
  have := Nat.lt_log2_self (n := m - 1)
  unfold gp; rw [Nat.pow_succ] at this; omega
theorem pow_eq_of {i j : Nat} {m : Nat} (h1 : 2 ^ i < m) (h2 : m ≤ 2 * 2 ^ i) (h3 : 2 ^ j < m) (h4 : m ≤ 2 * 2 ^ j) : i = j := by
  have a : 2 ^ i < 2 ^ (j + 1) := by rw [Nat.pow_succ]; omega
  have b : 2 ^ j < 2 ^ (i + 1) := by rw [Nat.pow_succ]; omega
  have a' := (Nat.pow_lt_pow_iff_right (by decide : 1 < 2)).mp a
  have b' := (Nat.pow_lt_pow_iff_right (by decide : 1 < 2)).mp b
  omega
theorem gp_eq {i m : Nat} (h1 : 2 ^ i < m) (h2 : m ≤ 2 * 2 ^ i) : gp m = 2 ^ i := by
  have h : 2 ≤ m := by have := Nat.pow_pos (a := 2) (n := i) (by decide); omega
  have := pow_eq_of (gp_lt h) (gp_ge h) h1 h2
  unfold gp; rw [this]
theorem gp_pow (i : Nat) : gp (2 ^ (i + 1)) = 2 ^ i := gp_eq (by rw [Nat.pow_succ]; have := Nat.pow_pos (a := 2) (n := i) (by decide); omega) (by rw [Nat.pow_succ]; omega)

/-- siblings from the root's half down to the leaf's: nodes as (begin, length-end) pairs -/
def sib (b m e : Nat) : List (Nat × Nat) :=
  if h : m ≤ 1 then [] else
    if e < b + gp m then (b + gp m, b + m) :: sib b (gp m) e
    else (b, b + gp m) :: sib (b + gp m) (m - gp m) e
termination_by m
decreasing_by
  · exact gp_lt (by omega)
  · have := gp_pos m; omega
theorem sib_one {b m e : Nat} (h : m ≤ 1) : sib b m e = [] := by rw [sib]; simp [h]
theorem sib_low {b m e : Nat} (h : 2 ≤ m) (k : e < b + gp m) : sib b m e = (b + gp m, b + m) :: sib b (gp m) e := by
  rw [sib]; rw [dif_neg (by omega), if_pos k]
theorem sib_high {b m e : Nat} (h : 2 ≤ m) (k : ¬ e < b + gp m) : sib b m e = (b, b + gp m) :: sib (b + gp m) (m - gp m) e := by
  rw [sib]; rw [dif_neg (by omega), if_neg k]

/-! ### joining up again -/
def join (x y : Nat × Nat) : Nat × Nat := (min x.1 y.1, max x.2 y.2)
/-- the halves of a node -/
def halv (x : Nat × Nat) : (Nat × Nat) × (Nat × Nat) := ((x.1, x.1 + gp (x.2 - x.1)), (x.1 + gp (x.2 - x.1), x.2))
def ok1 (x y : Nat × Nat) : Prop := (join x y).1 + 2 ≤ (join x y).2 ∧ (halv (join x y) = (x, y) ∨ halv (join x y) = (y, x))
def oks : Nat × Nat → List (Nat × Nat) → Prop
  | _, [] => True
  | x, y :: r => ok1 x y ∧ oks (join x y) r
def top : Nat × Nat → List (Nat × Nat) → Nat × Nat
  | x, [] => x
  | x, y :: r => top (join x y) r
theorem oks_append : ∀ (x : Nat × Nat) (l r : List (Nat × Nat)), oks x l → oks (top x l) r → oks x (l ++ r)
  | _, [], _, _, h => h
  | x, y :: l, r, h1, h2 => ⟨h1.1, oks_append (join x y) l r h1.2 h2⟩
theorem top_append : ∀ (x : Nat × Nat) (l r : List (Nat × Nat)), top x (l ++ r) = top (top x l) r
  | _, [], _ => rfl
  | x, y :: l, r => top_append (join x y) l r
theorem sib_up : ∀ (m b e : Nat), b ≤ e → e < b + m → oks (e, e + 1) (sib b m e).reverse ∧ top (e, e + 1) (sib b m e).reverse = (b, b + m) := by
  intro m
  induction m using Nat.strongRecOn with
  | ind m ih =>
    intro b e h1 h2
    by_cases hm : m ≤ 1
    · have : m = 1 := by omega
      subst this
      rw [sib_one (by omega)]
      have : e = b := by omega
      subst this
      exact ⟨True.intro, rfl⟩
    · have g1 := gp_lt (m := m) (by omega)
      have g2 := gp_pos m
      by_cases k : e < b + gp m
      · rw [sib_low (by omega) k, List.reverse_cons]
        obtain ⟨p, q⟩ := ih (gp m) g1 b e h1 k
        have j : join (b, b + gp m) (b + gp m, b + m) = (b, b + m) := by
          unfold join; simp only []; rw [Nat.min_eq_left (by omega), Nat.max_eq_right (by omega)]
        refine ⟨oks_append _ _ _ p ?_, ?_⟩
        · rw [q]
          refine ⟨⟨?_, .inl ?_⟩, True.intro⟩
          · rw [j]; simp only []; omega
          · rw [j]; unfold halv; simp only []; rw [Nat.add_sub_cancel_left]
        · rw [top_append, q]; exact j
      · rw [sib_high (by omega) k, List.reverse_cons]
        obtain ⟨p, q⟩ := ih (m - gp m) (by omega) (b + gp m) e (by omega) (by omega)
        have e2 : b + gp m + (m - gp m) = b + m := by omega
        rw [e2] at q
        have j : join (b + gp m, b + m) (b, b + gp m) = (b, b + m) := by
          unfold join; simp only []; rw [Nat.min_eq_right (by omega), Nat.max_eq_left (by omega)]
        refine ⟨oks_append _ _ _ p ?_, ?_⟩
        · rw [q]
          refine ⟨⟨?_, .inr ?_⟩, True.intro⟩
          · rw [j]; simp only []; omega
          · rw [j]; unfold halv; simp only []; rw [Nat.add_sub_cancel_left]
        · rw [top_append, q]; exact j
theorem sib_len_pow (i : Nat) : ∀ (b e : Nat), b ≤ e → e < b + 2 ^ i → (sib b (2 ^ i) e).length = i := by
  induction i with
  | zero => intro b e h1 h2; rw [sib_one (by simp)]; rfl
  | succ i ih =>
    intro b e h1 h2
    have h3 : 2 ≤ 2 ^ (i + 1) := by rw [Nat.pow_succ]; have := Nat.pow_pos (a := 2) (n := i) (by decide); omega
    have g := gp_pow i
    have e2 : 2 ^ (i + 1) - 2 ^ i = 2 ^ i := by rw [Nat.pow_succ]; omega
    by_cases k : e < b + gp (2 ^ (i + 1))
    · rw [sib_low h3 k, List.length_cons, g, ih b e h1 (by omega)]
    · rw [sib_high h3 k, List.length_cons, g, e2, ih (b + 2 ^ i) e (by omega) (by rw [Nat.pow_succ] at h2; omega)]
/-! ### the peaks by digits: (begin, height) -/
def pk : Nat → Nat → Nat → List (Nat × Nat)
  | 0, _, _ => []
  | i + 1, n, b => if n.testBit i then (b, i) :: pk i n (b + 2 ^ i) else pk i n b
theorem mod_succ (n i : Nat) : n % 2 ^ (i + 1) = (if n.testBit i then 2 ^ i else 0) + n % 2 ^ i := by
  rw [Nat.mod_pow_succ, Nat.testBit_eq_decide_div_mod_eq, Nat.add_comm]
  have h : n / 2 ^ i % 2 = 0 ∨ n / 2 ^ i % 2 = 1 := by omega
  rcases h with h | h <;> rw [h] <;> simp
theorem pk_nil : ∀ (i n b : Nat), n % 2 ^ i = 0 → pk i n b = []
  | 0, _, _, _ => rfl
  | i + 1, n, b, h => by
    rw [mod_succ] at h
    have p := Nat.pow_pos (a := 2) (n := i) (by decide)
    unfold pk
    cases t : n.testBit i with
    | true => rw [t] at h; simp at h
    | false => rw [t] at h; simp at h; simp; exact pk_nil i n b h
theorem pk_ne : ∀ (i n b : Nat), n % 2 ^ i ≠ 0 → pk i n b ≠ []
  | 0, _, _, h => by simp [Nat.mod_one] at h
  | i + 1, n, b, h => by
    rw [mod_succ] at h
    unfold pk
    cases t : n.testBit i with
    | true => simp
    | false => rw [t] at h; simp at h; simp; exact pk_ne i n b (by omega)
theorem pk_begin : ∀ (i n b : Nat) (x : Nat × Nat), x ∈ pk i n b → b ≤ x.1 ∧ x.2 < i
  | 0, _, _, _, h => by simp [pk] at h
  | i + 1, n, b, x, h => by
    unfold pk at h
    cases t : n.testBit i with
    | true =>
      rw [t] at h; simp at h
      rcases h with h | h
      · subst h; exact ⟨Nat.le_refl _, Nat.lt_succ_self _⟩
      · have := pk_begin i n _ x h; have p := Nat.pow_pos (a := 2) (n := i) (by decide); omega
    | false =>
      rw [t] at h; simp at h
      have := pk_begin i n _ x h; omega
/-- what the law says of the levels: s the place of the first row, of t rows in all -/
def lev (t : Nat) : Nat → List (Nat × Nat) → List (Nat × Nat × Nat)
  | _, [] => []
  | s, x :: r => (x.1, x.1 + 2 ^ x.2, x.2 + min (s + 1) (t - 1)) :: lev t (s + 1) r
def due (e : Nat) (l : List (Nat × Nat × Nat)) : List Nat := (l.filter fun x => decide (x.1 ≤ e) && decide (e < x.2.1)).map fun x => x.2.2
theorem due_none (t e : Nat) : ∀ (l : List (Nat × Nat)) (s : Nat), (∀ x ∈ l, e < x.1) → due e (lev t s l) = []
  | [], _, _ => rfl
  | x :: r, s, h => by
    have h1 := h x (List.mem_cons_self)
    have ih := due_none t e r (s + 1) fun y hy => h y (List.mem_cons_of_mem _ hy)
    show List.map _ (List.filter _ ((x.1, x.1 + 2 ^ x.2, x.2 + min (s + 1) (t - 1)) :: lev t (s + 1) r)) = []
    rw [List.filter_cons, if_neg (by simp; omega)]
    exact ih
theorem due_is (n e : Nat) : ∀ (i b s : Nat), b ≤ e → e < b + n % 2 ^ i → due e (lev (s + (pk i n b).length) s (pk i n b)) = [(sib b (n % 2 ^ i) e).length + min s (s + (pk i n b).length - 1)] := by
  intro i
  induction i with
  | zero => intro b s h1 h2; simp [Nat.mod_one] at h2; omega
  | succ i ih =>
    intro b s h1 h2
    have p := Nat.pow_pos (a := 2) (n := i) (by decide)
    have ml := Nat.mod_lt n p
    cases t : n.testBit i with
    | false =>
      have e1 : n % 2 ^ (i + 1) = n % 2 ^ i := by rw [mod_succ, t]; simp
      have e2 : pk (i + 1) n b = pk i n b := by show (if n.testBit i = true then _ else _) = _; rw [t]; simp
      rw [e1] at h2
      rw [e1, e2]; exact ih b s h1 h2
    | true =>
      have e1 : n % 2 ^ (i + 1) = 2 ^ i + n % 2 ^ i := by rw [mod_succ, t]; simp
      have e2 : pk (i + 1) n b = (b, i) :: pk i n (b + 2 ^ i) := by show (if n.testBit i = true then _ else _) = _; rw [t]; simp
      rw [e1] at h2
      rw [e1, e2, List.length_cons]
      by_cases r0 : n % 2 ^ i = 0
      · rw [pk_nil i n _ r0, r0]
        rw [r0] at h2
        rw [Nat.add_zero] at h2
        rw [Nat.add_zero (2 ^ i), sib_len_pow i b e h1 h2]
        show List.map _ (List.filter _ [(b, b + 2 ^ i, i + min (s + 1) (s + (0 + 1) - 1))]) = _
        rw [List.filter_cons, if_pos (by simp; omega)]
        simp
      · have hne : 1 ≤ (pk i n (b + 2 ^ i)).length := by
          have := pk_ne i n (b + 2 ^ i) r0
          cases hh : pk i n (b + 2 ^ i) with
          | nil => exact absurd hh this
          | cons _ _ => rw [List.length_cons]; omega
        have g : gp (2 ^ i + n % 2 ^ i) = 2 ^ i := gp_eq (by omega) (by omega)
        by_cases k : e < b + 2 ^ i
        · rw [sib_low (by omega) (by rw [g]; exact k), g, List.length_cons, sib_len_pow i b e h1 k]
          have d := due_none (s + ((pk i n (b + 2 ^ i)).length + 1)) e (pk i n (b + 2 ^ i)) (s + 1) fun x hx => by have := pk_begin _ _ _ x hx; omega
          show List.map _ (List.filter _ ((b, b + 2 ^ i, i + min (s + 1) (s + ((pk i n (b + 2 ^ i)).length + 1) - 1)) :: lev (s + ((pk i n (b + 2 ^ i)).length + 1)) (s + 1) (pk i n (b + 2 ^ i)))) = _
          rw [List.filter_cons, if_pos (by simp; omega), List.map_cons]
          have d' : List.map (fun x => x.2.2) (List.filter (fun x => decide (x.1 ≤ e) && decide (e < x.2.1)) (lev (s + ((pk i n (b + 2 ^ i)).length + 1)) (s + 1) (pk i n (b + 2 ^ i)))) = [] := d
          rw [d']
          simp
          omega
        · rw [sib_high (by omega) (by rw [g]; exact k), g, List.length_cons, Nat.add_sub_cancel_left]
          have q := ih (b + 2 ^ i) (s + 1) (by omega) (by omega)
          have e3 : s + 1 + (pk i n (b + 2 ^ i)).length = s + ((pk i n (b + 2 ^ i)).length + 1) := by omega
          rw [e3] at q
          show List.map _ (List.filter _ ((b, b + 2 ^ i, i + min (s + 1) (s + ((pk i n (b + 2 ^ i)).length + 1) - 1)) :: lev (s + ((pk i n (b + 2 ^ i)).length + 1)) (s + 1) (pk i n (b + 2 ^ i)))) = _
          rw [List.filter_cons, if_neg (by simp; omega)]
          refine Eq.trans q ?_
          congr 1
          omega
/-! ### which pairs are nodes -/
/-- the bits of m - 1 -/
def lb (m : Nat) : Nat := if m ≤ 1 then 0 else Nat.log2 (m - 1) + 1
theorem lb_le {x i : Nat} (h : x ≤ 2 ^ i) : lb x ≤ i := by
  unfold lb
  by_cases k : x ≤ 1
  · rw [if_pos k]; omega
  · rw [if_neg k]
    have h1 := Nat.log2_self_le (n := x - 1) (by omega)
    have h2 : 2 ^ Nat.log2 (x - 1) < 2 ^ i := by omega
    exact (Nat.pow_lt_pow_iff_right (by decide : 1 < 2)).mp h2
theorem lb_ge (x : Nat) : x ≤ 2 ^ lb x := by
  unfold lb
  by_cases k : x ≤ 1
  · rw [if_pos k]; omega
  · rw [if_neg k]
    have := Nat.lt_log2_self (n := x - 1)
    omega
theorem lb_pow (i : Nat) : lb (2 ^ i) = i := by
  have h1 := lb_le (Nat.le_refl (2 ^ i))
  have h2 := (Nat.pow_le_pow_iff_right (by decide : 1 < 2)).mp (lb_ge (2 ^ i))
  omega
theorem lb_gp {m : Nat} (h : 2 ≤ m) : 2 ^ lb m = 2 * gp m := by
  unfold lb gp; rw [if_neg (by omega), Nat.pow_succ]; omega
def tree (n b m : Nat) : Prop := 2 ^ lb m ∣ b ∧ (m = 2 ^ lb m ∨ b + m = n)
theorem tree_root (n : Nat) : tree n 0 n := ⟨Nat.dvd_zero _, .inr (Nat.zero_add _)⟩
theorem tree_low {n b m : Nat} (h : 2 ≤ m) (t : tree n b m) : tree n b (gp m) := by
  obtain ⟨d, _⟩ := t
  rw [lb_gp h] at d
  have e : 2 ^ lb (gp m) = gp m := by unfold gp; rw [lb_pow]
  exact ⟨by rw [e]; exact Nat.dvd_trans (Nat.dvd_mul_left _ _) d, .inl e.symm⟩
theorem tree_high {n b m : Nat} (h : 2 ≤ m) (t : tree n b m) : tree n (b + gp m) (m - gp m) := by
  obtain ⟨d, k⟩ := t
  rw [lb_gp h] at d k
  have g1 := gp_lt h
  have g2 := gp_ge h
  have dg : 2 ^ lb (m - gp m) ∣ gp m := by
    have : lb (m - gp m) ≤ Nat.log2 (m - 1) := lb_le (by unfold gp at g1 g2 ⊢; omega)
    exact Nat.pow_dvd_pow 2 this
  refine ⟨Nat.dvd_add (Nat.dvd_trans dg (Nat.dvd_trans (Nat.dvd_mul_left _ _) d)) dg, ?_⟩
  rcases k with k | k
  · left
    have e : m - gp m = gp m := by omega
    rw [e]
    unfold gp; rw [lb_pow]
  · right; omega
theorem sib_len_le : ∀ (m b e : Nat), b ≤ e → e < b + m → (sib b m e).length ≤ lb m := by
  intro m
  induction m using Nat.strongRecOn with
  | ind m ih =>
    intro b e h1 h2
    by_cases hm : m ≤ 1
    · rw [sib_one hm]; exact Nat.zero_le _
    · have g1 := gp_lt (m := m) (by omega)
      have g2 := gp_ge (m := m) (by omega)
      have g3 := gp_pos m
      have e1 : lb m = Nat.log2 (m - 1) + 1 := by unfold lb; rw [if_neg hm]
      by_cases k : e < b + gp m
      · rw [sib_low (by omega) k, List.length_cons]
        have := ih (gp m) g1 b e h1 k
        have e2 : lb (gp m) = Nat.log2 (m - 1) := by unfold gp; rw [lb_pow]
        omega
      · rw [sib_high (by omega) k, List.length_cons]
        have := ih (m - gp m) (by omega) (b + gp m) e (by omega) (by omega)
        have e2 : lb (m - gp m) ≤ Nat.log2 (m - 1) := lb_le (by unfold gp at g1 g2 ⊢; omega)
        omega
end LT
namespace LT
open PySem PySem.Spec PyProof.Rows L2
def topS (i : Nat) : Stmt := PySem.Challenge.pw_logtrees_k48_errors_made.main.body.getD i (.Pass ⟨0, 0, 0, 0⟩)
abbrev sLawBag : Stmt := topS 18
theorem scLawBag : FnScope ["cell"] ["cell"] (defScope sLawBag) := ⟨rfl, rfl, rfl, by decide +kernel, rfl, by decide +kernel, by decide +kernel⟩
abbrev sLawPick : Stmt := topS 19
theorem scLawPick : FnScope ["bag", "many", "told", "seed", "turn", "first", "second", "drawn"] ["bag", "many"] (defScope sLawPick) := ⟨rfl, rfl, rfl, by decide +kernel, rfl, by decide +kernel, by decide +kernel⟩
abbrev sLawMade : Stmt := topS 20
theorem scLawMade : FnScope ["number", "found"] ["number"] (defScope sLawMade) := ⟨rfl, rfl, rfl, by decide +kernel, rfl, by decide +kernel, by decide +kernel⟩
abbrev sLawClasses : Stmt := topS 21
theorem scLawClasses : FnScope ["one", "found"] ["one"] (defScope sLawClasses) := ⟨rfl, rfl, rfl, by decide +kernel, rfl, by decide +kernel, by decide +kernel⟩
abbrev sLaw : Stmt := topS 22
theorem scLaw : FnScope ["script", "bag", "turn", "number", "made", "k", "one", "base", "some", "j"] ["script"] (defScope sLaw) := ⟨rfl, rfl, rfl, by decide +kernel, rfl, by decide +kernel, by decide +kernel⟩
/-- a def as it stands behind the top -/
structure At (K : PySem.W.Frag) (mg : Str → Option Value) (x : Str) (f : Addr) (fd : FuncData) (ps : List Str) : Prop where
  m : mg x = some (.ref f)
  kp : PySem.W.keepIn K (.ref f) = true
  b : Binds K fd ps []
theorem units1 {k : Nat} {A : Around} (r : Room k A) : A.units + 65 < cLine := by have := r.un; omega
/-- all but b as it was -/
def But (b : Addr) (H H' : Hp) : Prop := ∀ a o, a ≠ b → H a = some o → H' a = some o
theorem But.refl (b : Addr) (H : Hp) : But b H H := fun _ _ _ h => h
theorem But.trans {b : Addr} {H H1 H2 : Hp} (x : But b H H1) (y : But b H1 H2) : But b H H2 := fun a o n h => y a o n (x a o n h)
theorem But.of {b : Addr} {H H1 : Hp} (x : Same H H1) : But b H H1 := fun a o _ h => x a o h
theorem same_upd {H : Hp} {p : Addr} {o : HO} (h : H p = none) : Same H (upd H p o) := fun b x e => by
  rw [upd_ne (ne_of_none e h)]
  exact e
def BagAt (H : Hp) (b : Addr) : Prop := ∃ x y z : Int, H b = some (.lst [.int x, .int y, .int z])
theorem BagAt.same {H H' : Hp} {b : Addr} (h : BagAt H b) (s : Same H H') : BagAt H' b := by
  obtain ⟨x, y, z, e⟩ := h
  exact ⟨x, y, z, s _ _ e⟩
/-- a pair of ints -/
def Nd (H : Hp) (v : V) (x : Nat × Nat) : Prop := ∃ p, v = .ref p ∧ H p = some (.tup [.int x.1, .int x.2])
theorem Nd.same {H H' : Hp} {v : V} {x : Nat × Nat} (h : Nd H v x) (s : Same H H') : Nd H' v x := by
  obtain ⟨p, e, q⟩ := h
  exact ⟨p, e, s _ _ q⟩
theorem Nd.dp {K : PySem.W.Frag} {H : Hp} {v : V} {x : Nat × Nat} (h : Nd H v x) : Dp K H v (.tuple [.int x.1, .int x.2]) := by
  obtain ⟨p, rfl, q⟩ := h
  exact .tup (SqT.of q) (.cons (.int _) (.cons (.int _) .nil))
theorem nd_shaped (a b : Int) : SeqAt.shaped (.tuple [.int a, .int b]) = true := by
  show (PyData.canLay0 _ && decide (PyData.depth _ ≤ 64)) = true
  simp [PyData.canLay0, PyData.canLayAll0, PyData.depth, PyData.depthAll]
theorem nd_eqv (a b c d : Int) : PyData.eqv (.tuple [.int a, .int b]) (.tuple [.int c, .int d]) = (decide (a = c) && decide (b = d)) := by
  have e : PyData.eqv (.tuple [.int a, .int b]) (.tuple [.int c, .int d]) = ((a == c) && ((b == d) && true)) := by simp only [PyData.eqv, PyData.eqvAll]
  rw [e, Bool.and_true]
  by_cases h1 : a = c <;> by_cases h2 : b = d <;> simp [h1, h2]
/-- lists of values and what they stand for -/
inductive All2 {α : Type} (R : V → α → Prop) : List V → List α → Prop
  | nil : All2 R [] []
  | cons {v : V} {x : α} {vs : List V} {xs : List α} : R v x → All2 R vs xs → All2 R (v :: vs) (x :: xs)
section
variable {α : Type} {R R' : V → α → Prop}
theorem All2.mono (f : ∀ v x, R v x → R' v x) : ∀ {vs : List V} {xs : List α}, All2 R vs xs → All2 R' vs xs
  | _, _, .nil => .nil
  | _, _, .cons h t => .cons (f _ _ h) (All2.mono f t)
theorem All2.len : ∀ {vs : List V} {xs : List α}, All2 R vs xs → vs.length = xs.length
  | _, _, .nil => rfl
  | _, _, .cons _ t => by rw [List.length_cons, List.length_cons, All2.len t]
theorem All2.app : ∀ {vs : List V} {xs : List α} {us : List V} {ys : List α}, All2 R vs xs → All2 R us ys → All2 R (vs ++ us) (xs ++ ys)
  | _, _, _, _, .nil, h => h
  | _, _, _, _, .cons h t, k => .cons h (All2.app t k)
theorem All2.rev : ∀ {vs : List V} {xs : List α}, All2 R vs xs → All2 R vs.reverse xs.reverse
  | _, _, .nil => .nil
  | _, _, .cons h t => by
    rw [List.reverse_cons, List.reverse_cons]
    exact All2.app (All2.rev t) (.cons h .nil)
theorem All2.nth : ∀ {vs : List V} {xs : List α} {i : Nat} {v : V}, All2 R vs xs → vs[i]? = some v → ∃ x, xs[i]? = some x ∧ R v x
  | _, _, _, _, .nil, h => by simp at h
  | _, _, 0, _, .cons h t, e => by
    have := Option.some.inj e
    subst this
    exact ⟨_, rfl, h⟩
  | _, _, i + 1, _, .cons h t, e => by
    rw [List.getElem?_cons_succ] at e ⊢
    exact All2.nth t e
theorem All2.nth2 : ∀ {vs : List V} {xs : List α} {i : Nat} {x : α}, All2 R vs xs → xs[i]? = some x → ∃ v, vs[i]? = some v ∧ R v x
  | _, _, _, _, .nil, h => by simp at h
  | _, _, 0, _, .cons h t, e => by
    have := Option.some.inj e
    subst this
    exact ⟨_, rfl, h⟩
  | _, _, i + 1, _, .cons h t, e => by
    rw [List.getElem?_cons_succ] at e ⊢
    exact All2.nth2 t e
end

/-! ### rules within a comprehension: what they say of the written part is said of the def's -/
section
open PySem L2
variable {X : Cx} {s : Shared} {H : Hp} {sc : Scope} {ce : Env} {fp : List Addr}
theorem pg_tupB {es : List Expr} {k : Nat} {pos : Pos} {t : TGs} {n : Nat} (hc : X.calm = true) (h : PGs (X.blk s H sc ce fp) es t)
    (hn : (assignEach es (X.blk s H sc ce fp).env).length = n := by rfl) (hst : (assignEach es (X.blk s H sc ce fp).env).findIdx? (·.1) = none := by rfl) : PG (X.blk s H sc ce fp) (.Tuple es k pos) (gTup X.K n t) := pg_tup hc h hn hst
theorem ix_listB : IxR (X.blk s H sc ce fp) (rIxL X.K) := ix_list
theorem ix_tupB : IxR (X.blk s H sc ce fp) (rIxT X.K) := ix_tup
theorem call_len_seqB : CallR (X.blk s H sc ce fp) (.builtin "len") (fun xs H Q => ∃ p ys, xs = [.ref p] ∧ (SqL X.K H p ys ∨ SqT X.K H p ys) ∧ Q (.int ys.length) H) := call_len_seq
theorem op_eqDB (hu : X.A.units + 64 < cLine) : OpR (X.blk s H sc ce fp) (compareOp .Eq) (rEqD X.K) := op_eqD (X := X.blk s H sc ce fp) hu
theorem op_neDB (hu : X.A.units + 64 < cLine) : OpR (X.blk s H sc ce fp) (compareOp .NotEq) (rNeD X.K) := op_neD (X := X.blk s H sc ce fp) hu
theorem op_inDB (hu : X.A.units + 65 < cLine) : OpR (X.blk s H sc ce fp) (compareOp .In) (rInD X.K) := op_inD (X := X.blk s H sc ce fp) hu
theorem op_notInDB (hu : X.A.units + 65 < cLine) : OpR (X.blk s H sc ce fp) (compareOp .NotIn) (rNotInD X.K) := op_notInD (X := X.blk s H sc ce fp) hu
end
theorem Nd.upd {H : Hp} {v : V} {x : Nat × Nat} {s : Addr} {xs : List V} {o : HO} (h : Nd H v x) (hs : H s = some (.lst xs)) : Nd (upd H s o) v x := by
  obtain ⟨p, e, q⟩ := h
  exact ⟨p, e, by rw [upd_ne (ne_of q hs (by intro z; cases z))]; exact q⟩
def full (x : Nat × Nat) : Nat × Nat := (x.1, x.1 + 2 ^ x.2)
theorem pk_len : ∀ (i n b : Nat), (pk i n b).length ≤ i
  | 0, _, _ => Nat.le_refl _
  | i + 1, n, b => by
    show (if n.testBit i = true then (b, i) :: pk i n (b + 2 ^ i) else pk i n b).length ≤ i + 1
    by_cases t : n.testBit i = true
    · rw [if_pos t, List.length_cons]
      exact Nat.succ_le_succ (pk_len i n _)
    · rw [if_neg t]
      exact Nat.le_succ_of_le (pk_len i n b)
theorem take_more {α : Type} : ∀ {l : List α} {i : Nat} {x : α}, l[i]? = some x → l.take (i + 1) = l.take i ++ [x]
  | [], i, x, h => by simp at h
  | a :: l, 0, x, h => by
    have e : a = x := Option.some.inj h
    subst e
    rfl
  | a :: l, i + 1, x, h => by
    have ih := take_more (l := l) (i := i) (x := x) h
    show a :: l.take (i + 1) = a :: l.take i ++ [x]
    rw [ih]
    rfl
theorem szle {n : Nat} (h : n ≤ 100000) : n ≤ sizeLine := Nat.le_trans h (by decide)
theorem szlt {n : Nat} (h : n < 100000) : n < sizeLine := Nat.lt_of_lt_of_le h (by decide)
end LT

namespace LT
open PySem PySem.Spec PyProof.Rows L2
/-! ### a caught exception that is kept behind its suite -/
/-- an exception of the class cls at a, its own dict at d, if any -/
def ExK (cls : Value) (d : Option Addr) (a : Addr) : HO := .ext fun h => ∃ (ob : Obj) (fs : Array Value), h.get? a = some ob ∧ Zc cls d ob ∧ ob.data = .fields fs
theorem exK_ok {P : Program} {w : World} {H : Hp} {h : Heap} {a : Addr} {cls : Value} {d : Option Addr} {ob : Obj} {fs : Array Value} (e : h.get? a = some ob) (z : Zc cls d ob) (df : ob.data = .fields fs) : ObjOk P w H h a (ExK cls d a) :=
  ⟨⟨ob, fs, e, z, df⟩, ⟨ob, e⟩, fun _ _ ⟨o, v, q, r⟩ k => ⟨o, v, k o q, r⟩⟩
section
variable {X : Cx} {pins : List (Addr × Obj)} {σ : L2.St} {H : Hp} {s : Shared}
/-- it is told of from now on -/
theorem Inv.adopt {a : Addr} {cls : Value} {d : Option Addr} {ob : Obj} {fs : Array Value} (I : Inv X pins σ H s) (e : s.heap.get? a = some ob) (z : Zc cls d ob) (df : ob.data = .fields fs) (na : H a = none) (n0 : X.s_0.heap.get? a = none)
    (nL : a ≠ X.env.locals) (np : ∀ p ∈ X.pn ++ pins, p.1 ≠ a) : Inv X pins σ (upd H a (ExK cls d a)) s := by
  have ne0 : ∀ b o, X.s_0.heap.get? b = some o → b ≠ a := fun b o q y => by
    rw [y, n0] at q
    cases q
  refine ⟨I.ok, I.os, I.bare, ⟨I.base.keep, I.base.slot, ?_, I.base.there, ?_, ?_, ?_⟩, I.loc, I.cell, ?_, ?_, ?_, ?_, I.len⟩
  · intro b o q n hx
    rw [upd_ne (ne0 b o q)]
    exact I.base.free b o q n hx
  · intro b xs q
    have y := I.base.tups b xs q
    rw [upd_ne (ne_of_none y na)]
    exact y
  · intro b o u q
    have y := I.base.frzs b o u q
    rw [upd_ne (ne_of_none y na)]
    exact y
  · intro b ps q
    obtain ⟨m, y⟩ := I.base.tbls b ps q
    exact ⟨m, by rw [upd_ne (ne_of_none y na)]; exact y⟩
  · rw [upd_ne (fun y => nL y.symm)]
    exact I.free
  · intro x c q
    obtain ⟨v, o, ho, hd⟩ := I.cell x c q
    rw [upd_ne (fun y => by rw [y, e] at ho; cases ho; rw [df] at hd; cases hd)]
    exact I.freeC x c q
  · intro p hp
    obtain ⟨q1, q2, q3⟩ := I.pin p hp
    exact ⟨q1, by rw [upd_ne (np p hp)]; exact q2, q3⟩
  · exact HOk.laidN I.hok (fun _ _ q => q) na (exK_ok e z df)
end
/-- what the ends of a suite say, once the name of its clause has gone and the exception is told of -/
def endsK (i : Nat) (a : Addr) (cls : Value) (d : Option Addr) (D : Ends) : Ends :=
  { nx := fun σ' H' => H' a = none → D.nx (σ'.set i none) (upd H' a (ExK cls d a)), rt := fun v H' => H' a = none → D.rt v (upd H' a (ExK cls d a)),
    bk := fun σ' H' => H' a = none → D.bk (σ'.set i none) (upd H' a (ExK cls d a)), ct := fun σ' H' => H' a = none → D.ct (σ'.set i none) (upd H' a (ExK cls d a)) }
def wKeep (K : PySem.W.Frag) (c : Value) (i : Nat) (ts : Addr → Value → Option Addr → TS) (Wout : WX) (D : Ends) : WX := fun cls d σ H =>
  ∃ b, PySem.W.exmOne K cls c = some b ∧ (b = true → ∀ a, H a = none → ts a cls d (endsK i a cls d D) (σ.set i (some (.ref a))) H) ∧ (b = false → Wout cls d σ H)
section
variable {X : Cx} {x n : Str} {c : Value} {i : Nat} {body suite : List Stmt} {st0 : Stmt} {p1 p2 p3 : Pos} {tb : WX → TS} {ts : Addr → Value → Option Addr → TS} {Wout : WX}
theorem ps_try_keep (hst : X.stack = X.env :: X.outer) (hex : X.ex = []) (hfr : X.env.frame = some X.env.locals) (nod : X.N.Nodup) (slot : X.N[i]? = some n) (own : X.env.kindOf n = some .local) (hc : Names X x c) (tk : Takes X Wout)
    (hb : ∀ (W : WX) (pn : List (Addr × Obj)) (xe : Value → Shared → Prop), Takes (X.tr pn xe) W → PassesOwn (model X.prog X.w) X.A X.env xe → PSs (X.tr pn xe) body (tb W))
    (hsu : ∀ (a : Addr) (ob : Obj) (cls : Value) (d : Option Addr) (pn : List (Addr × Obj)), Zc cls d ob → (∃ fs, ob.data = .fields fs) → PSs (X.suite a ((a, ob) :: pn)) (st0 :: suite) (ts a cls d)) :
    PS X (.Try body [.ExceptHandler (some (.Name x p1)) (some n) (st0 :: suite) p2] [] [] p3) (fun D σ H => tb (wKeep X.K c i ts Wout D) D σ H) := by
  refine ⟨?_⟩
  intro pins s σ H D I h
  have okX := I.ok
  have frms : X.A.frames = some (X.env :: X.outer) := okX.frames.trans (congrArg some hst)
  have locn : Loc X.env.scope n := .inl own
  refine wpAny_Try_except ?_
  let land : Value → Shared → Prop := fun e u1 => wpAny (model X.prog X.w) X.A (noteFrame e X.env) (fun _ u2 => wpAny (model X.prog X.w) X.A (setFlight e none)
    (fun _ u3 => wpAny (model X.prog X.w) X.A (handleBy e X.env [.ExceptHandler (some (.Name x p1)) (some n) (st0 :: suite) p2]) (SP X pins D) X.xe u3) X.xe u2) X.xe u1
  have catch_ : Takes (X.tr (X.pn ++ pins) land) (wKeep X.K c i ts Wout D) := by
    rintro u s' ⟨a, B, sI, pins', τ, G, cls, d, rfl, J', ground, up, sky, na, os, ag, b, hb1, yes, no⟩
    have J : Inv X pins τ G sI := J'.ofTry okX
    have sky1 : Sky B (X.env :: X.outer) a (Zc cls d) X.env.locals s'.heap := hst ▸ sky
    show wpAny (model X.prog X.w) X.A (noteFrame (.ref a) X.env) _ _ _
    refine Sky.land Zc.steady frms hfr sky1 fun ha fa upa => ?_
    have Ja : Inv X pins τ G { s' with heap := ha } := J.landed ground fa.1 (up.trans upa) os ag
    obtain ⟨oa, va, geta, za, da⟩ := fa.there
    have offStack : a ∉ frs (X.env :: X.outer) := fun hm => by
      obtain ⟨_, o', e', hnf⟩ := Heap.FunFrames.mem fa.2.2.1 hm
      rw [geta] at e'
      cases e'
      exact hnf _ da
    have nL : a ≠ X.env.locals := fun y => offStack (List.mem_filterMap.mpr ⟨X.env, List.mem_cons_self, by rw [hfr, y]⟩)
    have nF : a ∉ X.fs := fun hm => by
      obtain ⟨e, he, q⟩ := List.mem_filterMap.mp hm
      exact offStack (List.mem_filterMap.mpr ⟨e, List.mem_cons_of_mem _ he, q⟩)
    -- it was not there before
    have newI : sI.heap.get? a = none := by
      cases q : sI.heap.get? a with
      | none => rfl
      | some o =>
        have y := ground a o q (by rw [hst]; exact offStack)
        rw [fa.2.1] at y
        cases y
    have new0 : X.s_0.heap.get? a = none := by
      cases q : X.s_0.heap.get? a with
      | none => rfl
      | some o =>
        obtain ⟨o', y⟩ := J.base.there a o q (by rw [hex]; exact List.not_mem_nil)
        rw [newI] at y
        cases y
    have npin : ∀ p ∈ X.pn ++ pins, p.1 ≠ a := fun p hp y => by
      have q := (J.pin p hp).1
      rw [y, newI] at q
      cases q
    have Sa := Ja.suite geta da na nL nF
    refine wpAny_handleBy_cons (codeAny_handlers_test ?_) (fun q => by cases q)
    have tyA : PySem.W.Looks (model X.prog X.w) ha (typeOf (.ref a)) cls := fun A Q E s k q => wpAny_typeOf_ref (k _ _ geta) (by rw [za.1]; exact q)
    have asked := PySem.W.exm_one (M := model X.prog X.w) (Ja.kIn) tyA hb1
    have named : ∀ {Q : Value → Shared → Prop} {E : Value → Shared → Prop}, Q c { s' with heap := ha } → wpAny (model X.prog X.w) (X.A.mark (some (.ref a))) (eval (.Name x p1) X.env) Q E { s' with heap := ha } := by
      intro Q E q
      obtain ⟨hg, hdbg, hm | ⟨hm, hv, hnn⟩⟩ := hc
      · exact ld_glob (X := X.suite a ((a, oa) :: (X.pn ++ pins))) Sa hg hm q hdbg
      · exact ld_blt (X := X.suite a ((a, oa) :: (X.pn ++ pins))) Sa hg hm hv q hnn hdbg
    refine named (asked.here ?_)
    cases b with
    | true =>
      refine codeAny_handlers_suite_as ?_
      refine HandSPX.lands_againZ fa fun hz fz upz => ?_
      have Jz : Inv X pins τ G { s' with heap := hz } := J.landed ground fz.1 ((up.trans upa).trans upz) os ag
      obtain ⟨oz, vz, getz, zz, dz⟩ := fz.there
      have Sz := Jz.suite getz dz na nL nF
      refine store_ok (X := X.suite a ((a, oz) :: (X.pn ++ pins))) (v := .ref a) Sz nod slot locn rfl ?_ (.inr own)
      intro s5 S5
      refine wpAny_mono ((hsu a oz cls d (X.pn ++ pins) zz ⟨_, dz⟩).run [] s5 _ G _ S5 (yes rfl a na)) ?_ (fun _ _ y => False.elim y)
      intro fl s6 sp
      have fin : ∀ {σ6 : L2.St} {H6 : Hp} {Q : Shared → Prop}, Inv (X.suite a ((a, oz) :: (X.pn ++ pins))) [] σ6 H6 s6 → H6 a = none ∧ ((∀ s7, Inv X pins (σ6.set i none) (upd H6 a (ExK cls d a)) s7 → Q s7) →
          wpAny (model X.prog X.w) X.A (do bindName X.env n .none; unbindBehindTheSuite X.env n p2) (fun _ s7 => Q s7) X.xe s6) := by
        intro σ6 H6 Q S6
        refine ⟨(S6.pin (a, oz) (List.mem_append_left _ List.mem_cons_self)).2.1, fun hq => ?_⟩
        refine gone_ok (X := X.suite a ((a, oz) :: (X.pn ++ pins))) S6 nod slot own fun s7 S7 => hq s7 ?_
        have pa := S7.pin (a, oz) (List.mem_append_left _ List.mem_cons_self)
        exact Inv.adopt (S7.unsuite okX) pa.1 zz dz pa.2.1 new0 nL npin
      cases fl with
      | next =>
        obtain ⟨σ6, H6, S6, q6⟩ := sp
        exact (fin S6).2 fun s7 J7 => ⟨_, _, J7, q6 (fin (Q := fun _ => True) S6).1⟩
      | brk =>
        obtain ⟨σ6, H6, S6, q6⟩ := sp
        exact (fin S6).2 fun s7 J7 => ⟨_, _, J7, q6 (fin (Q := fun _ => True) S6).1⟩
      | cont =>
        obtain ⟨σ6, H6, S6, q6⟩ := sp
        exact (fin S6).2 fun s7 J7 => ⟨_, _, J7, q6 (fin (Q := fun _ => True) S6).1⟩
      | ret u =>
        obtain ⟨v6, σ6, H6, S6, r6, q6⟩ := sp
        exact (fin S6).2 fun s7 J7 => ⟨_, _, _, J7, r6, q6 (fin (Q := fun _ => True) S6).1⟩
    | false =>
      show wpAny _ X.A (handleBy (.ref a) X.env []) _ _ _
      refine wpAny_handleBy_nil ?_
      obtain ⟨_, _, _, ob, fv, T, oT, ts', he, hz, hd, h1, hr⟩ := id fa
      unfold PySem.passOn
      refine wpAny_bind (wpAny_field he hd h1 ?_)
      rw [if_neg (show ¬ ((Value.ref T == Value.none) = true) from by simp)]
      have on_ : wpAny (model X.prog X.w) X.A (setFlight (.ref a) X.env.frame) (fun _ u4 => wpAny (model X.prog X.w) X.A (throw (.ref a) : Sem Flow) (SP X pins D) X.xe u4) X.xe { s' with heap := ha } := by
        rw [hfr]
        refine HandSPX.setFlight_upZ fa fun h4 hh4 up4 => wpAny_throw (tk _ _ ?_)
        exact ⟨a, B, sI, pins, τ, G, cls, d, rfl, J, ground, (up.trans upa).trans up4, .inr (.inr (by rw [hst]; exact hh4)), na, os, ag, no rfl⟩
      first
        | exact wpAny_bind (wpAny_pure (wpAny_bind on_))
        | exact wpAny_bind on_
  refine wpAny_mono ((hb (wKeep X.K c i ts Wout D) (X.pn ++ pins) land catch_ PassesOwn.looking).run [] s σ H D (I.toTry _) h) ?_ (fun e s1 he => he)
  intro fl s1 sp
  cases fl with
  | next =>
    obtain ⟨σ', H', J', q⟩ := sp
    exact wpAny_execs_nil ⟨σ', H', J'.ofTry okX, q⟩
  | brk =>
    obtain ⟨σ', H', J', q⟩ := sp
    exact ⟨σ', H', J'.ofTry okX, q⟩
  | cont =>
    obtain ⟨σ', H', J', q⟩ := sp
    exact ⟨σ', H', J'.ofTry okX, q⟩
  | ret u =>
    obtain ⟨v, σ', H', J', r, q⟩ := sp
    exact ⟨v, σ', H', J'.ofTry okX, r, q⟩
end
section
variable {X : Cx}
/-- isinstance(e, c), e an exception that is kept, without a dict of its own -/
def rIsK (K : PySem.W.Frag) : List V → Hp → VK → Prop := fun xs H Q => ∃ (a D : Addr) (c : V) (cv : Value) (b : Bool), xs = [.ref a, c] ∧ H a = some (ExK (.ref D) none a) ∧ ExcC K D ∧ (∀ u, RelV c u → u = cv) ∧ PySem.W.kitOne K (.ref D) cv = some b ∧ Q (.bl b) H
theorem call_isK : CallR X (.builtin "isinstance") (rIsK X.K) := by
  intro pins s σ H xs us Q I r h
  obtain ⟨a, D, c, cv, b, rfl, ha, C, hcv, e, q⟩ := h
  obtain ⟨u1, us1, rfl, r1, r2⟩ : ∃ u us', us = u :: us' ∧ RelV (.ref a) u ∧ Vals [c] us' := by
    cases r with | cons h t => exact ⟨_, _, rfl, h, t⟩
  obtain ⟨u2, rfl, r3⟩ := vals1 r2
  cases r1
  have ec := hcv _ r3
  subst ec
  obtain ⟨⟨ob, fs, hget, hz, hd⟩, _, _⟩ := I.hok a _ ha
  have J : PySem.W.InstAt s.heap a ob D none := by
    obtain ⟨oc, od, oda, osl⟩ := ob
    obtain ⟨z1, z2⟩ := hz
    dsimp only at z1 z2 hd
    subst z1 z2 hd
    exact ⟨hget, rfl, rfl, trivial⟩
  refine PySem.W.kia_one (PySem.W.handS_kitx_exc C.hg C.hk C.hs C.hd C.ha C.hn C.ht C.hm) I.kIn J e (fun z => nomatch z) ?_
  intro tk
  exact ⟨.bl b, H, I.kept (t' := tk) fun _ _ z => z, rfl, q⟩
end
end LT

namespace LT
open PySem PySem.Spec PyProof.Rows L2
section
variable {X : Cx}
/-- {x}: nothing or an int, as a text -/
def tFmtN (te : TE) : TE := fun σ H Q => te σ H fun x H1 => (x = .non ∧ Q (.str "None") H1) ∨ ∃ i : Int, x = .int i ∧ i.natAbs.log2 < 1920 ∧ Q (.str (toString i)) H1
theorem pe_fmtN {e : Expr} {te : TE} {pos : Pos} (he : PE X e te) : PE X (.FormattedValue e (-1) none pos) (tFmtN te) := by
  refine ⟨fun pins s σ H Q I h => ?_⟩
  refine wpAny_FormattedValue_plain (thn (he.run pins s σ H _ I h) fun v s1 hv => ?_)
  obtain ⟨x, H1, I1, r1, q⟩ := hv
  rcases q with ⟨rfl, q⟩ | ⟨i, rfl, hz, q⟩
  · cases (show v = Value.none from r1)
    exact wpAny_formatField_none ⟨.str "None", H1, I1.tok _, ⟨_, rfl⟩, q⟩
  · obtain ⟨t, rfl⟩ := r1
    exact wpAny_formatField_int hz ⟨.str (toString i), H1, I1.tok _, ⟨_, rfl⟩, q⟩
end
/-- the scope of an __init__ that says super() -/
structure SScope (x : Str) (sc : Scope) : Prop where
  kind : sc.kind = .function
  co : sc.isCoroutine = false
  gen : sc.isGenerator = false
  self : sc.names.lookup ("self" : Str) = some .local
  par : sc.names.lookup x = some .local
  cls : sc.names.lookup ("__class__" : Str) = some .free
  sup : sc.names.lookup ("super" : Str) = some .globalImplicit
  nocell : ∀ y ∈ sc.names, y.2 ≠ .cell
  free : ∀ y ∈ sc.names, y.2 = .free → y.1 = "__class__"
  ne : x ≠ ("self" : Str)
  nd : (x == ("__debug__" : Str)) = false
  nc : (x == ("__classdict__" : Str)) = false
/-- the context of its body -/
def cxS (CX : CXT) (P : Program) (w : World) (K : PySem.W.Frag) (mg : Str → Option Value) (base : Heap) (N : List Str) (qual : Str) (scope : Scope) (f cda cc : Addr) (A : Around) (outer : List Env) (s : Shared) (H : Hp) (E : XK) : Cx where
  prog := P
  w := w
  K := K
  mg := mg
  base := base
  A := A.deeper (PySem.W.ksEnv qual scope s.heap.objs.size f (.ref cda) cc)
  N := N
  s_0 := s
  H_0 := H
  env := PySem.W.ksEnv qual scope s.heap.objs.size f (.ref cda) cc
  outer := outer
  stack := PySem.W.ksEnv qual scope s.heap.objs.size f (.ref cda) cc :: outer
  ex := []
  calm := true
  fn := fun y => y != "__class__"
  pn := []
  xe := fun e s' => wpAny (model P w) (A.deeper (PySem.W.ksEnv qual scope s.heap.objs.size f (.ref cda) cc)) (leaving (PySem.W.ksEnv qual scope s.heap.objs.size f (.ref cda) cc) e) (fun _ s'' => CX outer H s E e s'') (fun e' s'' => CX outer H s E e' s'') s'
/-- what the top says of a class whose __init__ says super().__init__(..) -/
structure Sup (P : Program) (K : PySem.W.Frag) (mg : Str → Option Value) (C cda cc : Addr) (fld : Str) : Prop where
  ex : OexC K C
  nofld : PySem.W.findIn K (.ref C) fld = some none
  sup : PySem.W.ks_superIn K C C "__init__" = some (some (.builtin "ValueError.__init__"))
  ve : PySem.W.subIn K (.ref C) (.type "ValueError") = some true
  own : PySem.W.mroIn K C (.ref C) = some true
  opq : PySem.W.nsIn K cStatics "thirdparty.any" = some none
  cell : ∃ cl cld csl, K.lookup cc = some ⟨cl, cld, .cell (some (.ref C)), csl⟩
  code : ∃ ccl cdd ccs, ∃ vs : Array Value, ∃ (file : Str) (tf : Tok), K.lookup cda = some ⟨ccl, cdd, .fields vs, ccs⟩ ∧ vs[2]? = some (.str file tf) ∧ ((P.main.file : Str) == file) = true
  top : (P.main.scope.names.lookup ("super" : Str)).isSome = false
  z : mg "super" = none
def spInit (C : Addr) (fld : Str) : Sp := fun vs H Q _ => ∃ (a : Addr) (y : V), vs = [.ref a, y] ∧ H a = some (exo a C none) ∧ (y = .non ∨ ∃ i : Int, y = .int i ∧ i.natAbs < 10 ^ 66) ∧
  ∀ dx, H dx = none → dx ≠ a → Q .non (upd (upd H dx (exd dx [(fld, y)])) a (exo a C (some dx)))
section
open PySem.W PySem.HandSPX
variable {prog : Program} {w : World} {A : Around} {E : Value → Shared → Prop} {h : Heap} {g : Array GenState} {d : Drawn} {t : Nat} {os : OsState}
variable {nm q : Str} {C N : Addr} {bs bm : List Value} {hdct : Bool} {sn : List Str} {sub : List Value} {ab : Bool} {col : Option Bool} {dd : Option Addr} {k0 k1 k2 k3 k5 : Option Value}
theorem call_mwV {u e t0 : Addr} {rest : List Value} {Q : Value → Shared → Prop}
    (hC : h.get? C = some (excClassObj nm q C N bs bm hdct sn sub ab col dd k0 k1 k2 k3 k5 "ValueError.__new__")) (he : h.get? e = some (HandSPX.excO C t0)) (hu : h.get? u = some (kxs_mw "ValueError.__init__" e)) (hrest : rest.length ≤ sizeLine)
    (hq : ∀ h' t1, (∀ b o, b ≠ e → h.get? b = some o → h'.get? b = some o) → h'.get? e = some (HandSPX.excO C t1) → Q .none ⟨h', g, d, t, os⟩) :
    wpAny (model prog w) A (call (.ref u) rest) Q E ⟨h, g, d, t, os⟩ := by
  refine wpAny_call (codeAny_of_tree ?_)
  show wpAny _ A.in1 (callAny (.ref u) ⟨rest, []⟩) _ _ _
  simp only [callAny]
  refine wpAny_bind (wpAny_load hu ?_)
  simp only [kxs_mw, show (Value.type "method-wrapper" == Value.type "method" || Value.type "method-wrapper" == Value.type "builtin_function_or_method" || Value.type "method-wrapper" == Value.type "method-wrapper") = true by decide, if_true]
  refine W.KFB.if_so (by decide) ?_
  refine wpAny_bind (ESX.check_bound F.excBase_ValueError hC he rfl ?_)
  refine wpAny_bind (wpAny_pure (wpAny_pure ?_))
  refine ⟨Code.quiet_builtin _ (by decide +kernel), codeAny_builtin F.excBase_ValueError.initEntry ?_⟩
  rw [Around.under_plainId F.excBase_ValueError.init.plain _]
  wp_walk
  refine hq _ h.objs.size (fun b o hb ho => ?_) ?_
  · rw [Heap.get?_update_other _ _ (Ne.symm hb)]
    exact Heap.get?_push_of_some _ ho
  · rw [Heap.get?_update_self _ (Heap.get?_push_of_some _ he) rfl]
    rfl
end
section
variable {CX : CXT} {P : Program} {w : World} {K : PySem.W.Frag} {mg : Str → Option Value} {base : Heap} {k : Nat}
theorem sup_inv {qual x : Str} {scope : Scope} {f cda cc C : Addr} {fld : Str} {A : Around} {outer : List Env} {s : Shared} {H : Hp} {E : XK} {h1 : Heap} {tk : Nat} {u0 u1 : Value} {v0 v1 : V} (S : SScope x scope) (T : Sup P K mg C cda cc fld) (hd : A.handled = none)
    (e0 : Env0 P w K mg base A outer s H) (r0 : RelV v0 u0) (r1 : RelV v1 u1) (hns : h1.Ns s.heap.objs.size (fun y => [(x, u1), ("self", u0)].lookup y)) (hk : ∀ b o, s.heap.get? b = some o → h1.get? b = some o) :
    Inv (cxS CX P w K mg base ["self", x] qual scope f cda cc A outer s H E) [] [some v0, some v1] H { s with heap := h1, toks := tk } := by
  have noA : ∀ b : Addr, b ∉ (cxS CX P w K mg base ["self", x] qual scope f cda cc A outer s H E).ex := fun b z => absurd (show b ∈ ([] : List Addr) from z) (by simp)
  have cl : ∀ {y : Str} {c : Addr}, (cxS CX P w K mg base ["self", x] qual scope f cda cc A outer s H E).env.cells.lookup y = some c → y = "__class__" ∧ c = cc := by
    intro y c h
    have h' : List.lookup y [(("__class__" : Str), cc)] = some c := h
    by_cases hy : y = "__class__"
    · subst hy
      simp [List.lookup] at h'
      exact ⟨rfl, h'.symm⟩
    · have : (y == ("__class__" : Str)) = false := by simpa using hy
      simp [List.lookup, this] at h'
  obtain ⟨ccl, ccd, ccs, hcc⟩ := T.cell
  have hbc := e0.mod.kin _ _ hcc
  refine ⟨⟨e0.mod, S.kind, rfl, rfl, Nat.le_refl _, fun y z c a b => ?_, fun y hy => ?_, fun y c hy a => ?_, fun _ => hd, Around.frames_deeper e0.frames, .inr ⟨rfl, rfl⟩, fun b z => absurd z (noA b), e0.bs, e0.bsz, fun b _ _ => noA b, fun b z => absurd z (noA b), e0.funs, e0.frf⟩,
    rfl, e0.bare, Un.kept hk, ⟨_, hns, fun i y v a b c => ?_⟩, fun y c a => ?_, e0.hok.fresh (Nat.le_refl _), fun y c a => ?_, fun p hp => absurd (show p ∈ ([] : List (Addr × Obj)) from hp) (by simp), e0.hok.kept hk, rfl⟩
  · rw [(cl a).1, (cl b).1]
  · have hy : scope.names.lookup y = some .cell ∨ scope.names.lookup y = some .free := hy
    rcases hy with hy | hy
    · exact absurd rfl (S.nocell _ (PySem.mem_of_lookup hy))
    · have e := S.free _ (PySem.mem_of_lookup hy) rfl
      have e : y = "__class__" := e
      subst e
      exact ⟨cc, by show List.lookup _ [(("__class__" : Str), cc)] = some cc; simp [List.lookup]⟩
  · rw [(cl a).1] at hy
    exact absurd (show (("__class__" : Str) != "__class__") = true from hy) (by simp)
  · match i, a, b with
    | 0, a, b =>
      have ey : "self" = y := Option.some.inj a
      have ev : v0 = v := Option.some.inj (Option.some.inj b)
      subst ey; subst ev
      refine ⟨u0, r0, .inl ⟨S.self, ?_⟩⟩
      have : ((("self" : Str)) == x) = false := by simpa using fun z => S.ne z.symm
      simp [List.lookup, this]
    | 1, a, b =>
      have ey : x = y := Option.some.inj a
      have ev : v1 = v := Option.some.inj (Option.some.inj b)
      subst ey; subst ev
      exact ⟨u1, r1, .inl ⟨S.par, by simp [List.lookup]⟩⟩
    | i + 2, a, b => exact absurd a (by show ¬ ([] : List Str)[i]? = some y; simp)
  · rw [(cl a).2]
    exact ⟨_, _, hk _ _ ((e0.bs _ _ hbc).1), rfl⟩
  · rw [(cl a).2]
    exact (e0.bs _ _ hbc).2
theorem sup_len {i : Int} (h : i.natAbs < 10 ^ 66) : (Str.ofString (toString i)).length ≤ 100 := by
  have e := int_text_length_le10 (a := i) (k := 66) (by decide) h
  rw [PySem.ofString_length]
  omega
theorem sup_sz {n : Nat} (h : n ≤ 5000) : n ≤ sizeLine := by rw [sizeLine_eq]; omega
theorem sup_log {i : Int} (h : i.natAbs < 10 ^ 66) : i.natAbs.log2 < 1920 := by
  by_cases z : i.natAbs = 0
  · rw [z]; decide
  · exact Nat.lt_of_lt_of_le ((Nat.log2_lt (k := 250) z).mpr (Nat.lt_of_lt_of_le h (by decide))) (by decide)
/-- super().__init__(e, ..) in the __init__ of an exception class over ValueError -/
theorem sup_call {X : Cx} {body : List Stmt} {f cda cc C a : Addr} {fld : Str} {fd : FuncData} {ar : Arg} {oc : Value} {od : Option Addr} {osl : Array (Option Value)} {e : Expr} {es : List Expr} {ta : TA} {p0 p1 p2 p7 : Pos} {σ : L2.St} {H : Hp} {s1 : Shared} {Q : Hp → Prop} {pl : Sem Bool}
    (T : Sup X.prog X.K X.mg C cda cc fld) (hks : X.env.kindOf "super" = some .globalImplicit) (hkc : X.env.kindOf "__class__" = some .free) (hka : X.env.kindOf "self" = some .local) (hcell : X.env.cells.lookup ("__class__" : Str) = some cc) (hfu : X.env.func = some f) (hco : X.env.code = .ref cda)
    (lk : X.K.lookup f = some ⟨oc, od, .func fd, osl⟩) (har : (fd.params.posonlyargs ++ fd.params.args).head? = some ar) (hself : ar.arg = "self") (I : Inv X [] σ H s1) (ea : H a = some (exo a C none)) (hN : X.N[0]? = some ("self" : Str)) (hσ : σ[0]? = some (some (V.ref a)))
    (ha : PA X (e :: es) ta)
    (hat : eval (.Call (.Attribute (.Call (.Name "super" p0) [] [] p1) "__init__" p2) (e :: es) [] p7) X.env = (do
      let ov ← attributeBase (.Call (.Name "super" p0) [] [] p1) "__init__" X.env (eval (.Call (.Name "super" p0) [] [] p1) X.env)
      standAt p2.atName
      let (f, first) ← holding [ov] (getMethod ov "__init__" pl)
      callWith p7 f first (backTo p7 (starEach (e :: es) X.env)) []) := by rfl)
    (he : starEach (e :: es) X.env = (false, eval e X.env) :: starEach es X.env := by rfl) (hpl : (backTo p7 (starEach es X.env)).any (·.1) = false := by rfl)
    (h : ta σ H fun vs H1 => vs.length ≤ 1000 ∧ H1 a = some (exo a C none) ∧ Q H1) :
    PySem.wpAt (model X.prog X.w) X.A (.func body X.env) (eval (.Call (.Attribute (.Call (.Name "super" p0) [] [] p1) "__init__" p2) (e :: es) [] p7) X.env) (fun _ s' => ∃ H1, Inv X [] σ H1 s' ∧ Q H1) X.xe s1 := by
  obtain ⟨nm, q, N, bs, bm, sn, sub, ab, col, dd, k0, k1, k2, k3, k5, hC, hbm⟩ := T.ex.cls
  have hcl : PySem.W.clsIn X.K C = some { name := nm, bases := bs, mro := .ref C :: bm, ns := N, qualname := q, hasDict := true, slotNames := sn, subclasses := sub, abstract := ab, collection := col, hasDel := false } := by unfold PySem.W.clsIn; rw [hC] <;> rfl
  obtain ⟨cl, cld, csl, hcc⟩ := T.cell
  obtain ⟨ccl, cdd, ccs, vs, file, tf, hcode, hvs, hfile⟩ := T.code
  have KX := I.kIn
  obtain ⟨t1, ho⟩ := exo_at I.hok ea
  obtain ⟨m, hns, hl⟩ := I.loc
  obtain ⟨u, ru, hu⟩ := hl 0 "self" (.ref a) hN hσ (.inl hka)
  obtain rfl : u = Value.ref a := ru
  have hm : m ("self" : Str) = some (Value.ref a) := by
    rcases hu with ⟨_, e⟩ | ⟨e, _⟩
    · exact e
    · rcases e with e | e <;> rw [hka] at e <;> cases e
  have hCs := KX _ _ hC
  refine ks_wpAt_MethodCall (pl := pl) ?_ hat
  refine ks_wpAt_super_base hks hkc (by decide) hfu (KX _ _ lk) rfl har hco (KX _ _ hcode) rfl hvs hfile T.top ?_
  obtain ⟨mb, hb1, hb2⟩ := I.mod.blt
  refine PySem.W.ks_loadName_global I.ok.kind hks (Calls.loadGlobal_builtin (by rw [I.ok.glob]; exact I.mod.glob.keeps I.bk) T.z (by rw [I.ok.blt]; exact hb1.keeps I.bk) ((hb2 "super" (by decide)).trans (by rfl)) ⟨rfl, ?_⟩)
  refine wpAny_loadName_free I.ok.kind hkc hcell ⟨_, KX _ _ hcc, rfl⟩ ?_
  rw [hself]
  refine wpAny_loadName_local I.ok.kind hka hns hm ?_
  obtain ⟨hh, g, d, t, os⟩ := s1
  refine ks_wpAny_isType_cls hCs rfl ⟨rfl, ?_⟩
  have IA : PySem.W.InstAt hh a { cls := .ref C, dict := none, data := .fields #[.ref t1, .none, .none, .none, .bool false, .none] } C none := ⟨ho, rfl, rfl, trivial⟩
  refine ks_wpAny_call_super hCs rfl ho rfl (fun c => by intro z; cases z) (PySem.W.looks_mroIn KX T.own) (fun h' e1 k1 => ?_)
  have KX' : X.K.In h' := KX.keeps k1
  have IA' : PySem.W.InstAt h' a { cls := .ref C, dict := none, data := .fields #[.ref t1, .none, .none, .none, .bool false, .none] } C none := ⟨k1 _ _ ho, rfl, rfl, trivial⟩
  have hmr : PySem.W.Looks (model X.prog X.w) h' (mroOf (.ref C)) (.ref C :: bm) := (PySem.W.looks_clsIn KX' hcl).andThen .now
  have hal : PySem.W.alongIn X.K "__init__" (((Value.ref C :: bm).dropWhile (· != .ref C)).drop 1) = some (some (.builtin "ValueError.__init__")) := by
    have z := T.sup
    unfold PySem.W.ks_superIn at z
    rw [hcl] at z
    exact z
  have hne : a ≠ C := fun z => by
    rw [z, hCs] at ho
    cases ho
  refine PySem.W.kxs_getMethod PySem.W.kxs_ValueError e1 (PySem.W.looks_opaque KX' T.opq) hmr rfl KX' hal (IA'.type.andThen (PySem.W.looks_subIn KX' T.ve)) hne (by decide) ?_
  have kk : ∀ b o, hh.get? b = some o → (h'.push (PySem.W.kxs_mw "ValueError.__init__" a)).get? b = some o := fun b o z => Heap.get?_push_of_some _ (k1 _ _ z)
  have sz : hh.objs.size ≤ h'.objs.size := Nat.le_of_lt (Heap.lt_size e1)
  have I2 : Inv X [(h'.objs.size, PySem.W.kxs_mw "ValueError.__init__" a)] σ H ⟨h'.push (PySem.W.kxs_mw "ValueError.__init__" a), g, d, t + 1, os⟩ :=
    ClX.pin_new (t' := t + 1) I kk sz (Heap.get?_push_size _ rfl) (fun v => by intro z; cases z)
  show wpAny _ _ (callWith p7 (Value.ref h'.objs.size) [] (backTo p7 (starEach (e :: es) X.env)) []) _ _ _
  have hA := ha.run p7 _ _ σ H _ I2 h
  rw [he] at hA ⊢
  refine PySem.W.kxs_callWith (i := "ValueError.__init__") (x := a) (by show (false || (backTo p7 (starEach es X.env)).any (·.1)) = false; rw [hpl]; rfl) ?_
  refine Calls.evalArgs_plain (thn hA fun us s2 ⟨vs2, H1, I3, rv, hlen, ea1, q⟩ => ?_)
  have hpin := ClX.pin_at I3
  refine ⟨hpin, ?_⟩
  obtain ⟨t2, ho2⟩ := exo_at I3.hok ea1
  obtain ⟨h2, g2, d2, tk2, os2⟩ := s2
  have hlu : us.length ≤ sizeLine := by
    rw [← Paired.length rv, sizeLine_eq]
    omega
  refine call_mwV (I3.kIn _ _ hC) ho2 hpin hlu fun h3 t3 k3 hx => ?_
  have J := I3.write (t' := tk2) (x := a) (e := a) (o := exo a C none) (by rw [ea1]; exact True.intro) (.inl rfl) k3 ⟨_, hx⟩ (exo_ok hx)
  have eu : upd H1 a (exo a C none) = H1 := by
    funext b
    by_cases hb : b = a
    · rw [hb, upd_same, ea1]
    · rw [upd_ne hb]
  rw [eu] at J
  exact ⟨H1, ClX.unpin J, q⟩
theorem ok_init_super {name qual x fld lit : Str} {params : Arguments} {scope : Scope} {dV kV doc pm ct oc : Value} {an od : Option Addr} {osl : Array (Option Value)} {f cda cc C : Addr} {p0 p1 p2 p3 p4 p5 p6 p7 p8 q0 q1 q2 q3 : Pos} {ar : Arg} {kk}
    (lk : K.lookup f = some ⟨oc, od, .func (PySem.W.ksFn name qual params [.Expr (.Call (.Attribute (.Call (.Name "super" p0) [] [] p1) "__init__" p2) [.JoinedStr [.Constant (.str lit) kk p3, .FormattedValue (.Name x p4) (-1) none p5] p6] [] p7) p8, .Assign [.Attribute (.Name "self" q0) fld q1] (.Name x q2) q3] scope dV kV doc pm an (.ref cda) ct cc), osl⟩)
    (hcd : PySem.W.codeIn K (.ref cda) qual = true) (S : SScope x scope) (T : Sup P K mg C cda cc fld) (hlit : lit.length ≤ 1000) (har : (params.posonlyargs ++ params.args).head? = some ar) (hself : ar.arg = "self")
    (hat : ∀ env : Env, ∃ pl : Sem Bool, eval (.Call (.Attribute (.Call (.Name "super" p0) [] [] p1) "__init__" p2) [.JoinedStr [.Constant (.str lit) kk p3, .FormattedValue (.Name x p4) (-1) none p5] p6] [] p7) env = (do
      let ov ← attributeBase (.Call (.Name "super" p0) [] [] p1) "__init__" env (eval (.Call (.Name "super" p0) [] [] p1) env)
      standAt p2.atName
      let (f, first) ← holding [ov] (getMethod ov "__init__" pl)
      callWith p7 f first (backTo p7 (starEach [.JoinedStr [.Constant (.str lit) kk p3, .FormattedValue (.Name x p4) (-1) none p5] p6] env)) []))
    (hsw1 : ∀ env : Env, swapsWith (.Call (.Attribute (.Call (.Name "super" p0) [] [] p1) "__init__" p2) [.JoinedStr [.Constant (.str lit) kk p3, .FormattedValue (.Name x p4) (-1) none p5] p6] [] p7) none p8.line env = pure false)
    (hsw2 : ∀ env : Env, swapsWith (.Name x q2) (some (.Attribute (.Name "self" q0) fld q1)) q3.line env = pure false) :
    FnOk P w K mg base CX (k + 1) f (PySem.W.ksFn name qual params [.Expr (.Call (.Attribute (.Call (.Name "super" p0) [] [] p1) "__init__" p2) [.JoinedStr [.Constant (.str lit) kk p3, .FormattedValue (.Name x p4) (-1) none p5] p6] [] p7) p8, .Assign [.Attribute (.Name "self" q0) fld q1] (.Name x q2) q3] scope dV kV doc pm an (.ref cda) ct cc) ["self", x] (spInit C fld) := by
  refine ⟨fun vs H Q E h => by obtain ⟨_, _, rfl, _⟩ := h; rfl, fun A outer s H args us vs Q E hr e0 hb r hsp => ?_⟩
  obtain ⟨a, y, rfl, ea, hy, hQ⟩ := hsp
  match us, r with
  | [u0, u1], .cons r0 (.cons r1 .nil) =>
  obtain rfl : u0 = Value.ref a := r0
  have KX : K.In s.heap := e0.mod.kin.keeps fun b o e => (e0.bs b o e).1
  have lim : s.heap.NoLimit := e0.mod.nolimit.keeps fun b o e => (e0.bs b o e).1
  refine ks_codeAny_call_defAt hr.depth (KX _ _ lk) rfl lim (PySem.W.codeRec_of KX hcd) rfl hb S.nocell (fun z hz => ?_) (fun h1 hns hk => ?_) S.co S.gen S.kind
  · rcases List.mem_cons.mp hz with e | e
    · rw [e]; exact S.self
    · rcases List.mem_cons.mp e with e | e
      · rw [e]; exact S.par
      · exact absurd e (by simp)
  show PySem.wpAt (model P w) (A.deeper (PySem.W.ksEnv qual scope s.heap.objs.size f (.ref cda) cc)) (.func _ (PySem.W.ksEnv qual scope s.heap.objs.size f (.ref cda) cc)) (execs _ (PySem.W.ksEnv qual scope s.heap.objs.size f (.ref cda) cc)) _ _ _
  have I : Inv (cxS CX P w K mg base ["self", x] qual scope f cda cc A outer s H E) [] [some (.ref a), some y] H { s with heap := h1, toks := s.toks + ((["self", x] : List Str).zip [Value.ref a, u1]).length } := sup_inv S T hr.hd e0 rfl r1 hns hk
  generalize hs1 : ({ s with heap := h1, toks := s.toks + ((["self", x] : List Str).zip [Value.ref a, u1]).length } : Shared) = s1 at I ⊢
  generalize hX : cxS CX P w K mg base ["self", x] qual scope f cda cc A outer s H E = X at I
  have pv : PE X (.Name x q2) (tVar 1) := by rw [← hX]; exact pe_var rfl (.inl S.par) S.nd S.nc
  have pv4 : PE X (.Name x p4) (tVar 1) := by rw [← hX]; exact pe_var rfl (.inl S.par) S.nd S.nc
  have ps : PE X (.Name "self" q0) (tVar 0) := by rw [← hX]; exact pe_var rfl (.inl S.self)
  have pj : PE X (.JoinedStr [.Constant (.str lit) kk p3, .FormattedValue (.Name x p4) (-1) none p5] p6) _ := pe_joined (.cons pe_str (.cons (pe_fmtN pv4) .nil))
  have po : PS X (.Assign [.Attribute (.Name "self" q0) fld q1] (.Name x q2) q3) _ := ps_ost ps pv (by rw [← hX]; exact hsw2 _)
  have pa : PA X [.JoinedStr [.Constant (.str lit) kk p3, .FormattedValue (.Name x p4) (-1) none p5] p6] _ := pa_cons pj pa_nil
  have hargs : (tCons (fun σ H Q => tJs [tC (.str lit), tFmtN (tVar 1)] Str.empty σ H fun out H1 => Q (.str out) H1) tNil) [some (.ref a), some y] H fun vs H1 => vs.length ≤ 1000 ∧ H1 a = some (exo a C none) ∧ H1 = H := by
    have a0 : (Str.empty ++ lit).length ≤ 1000 := by
      rw [PySem.Str.length_append]
      have : Str.empty.length = 0 := rfl
      omega
    refine ⟨lit, rfl, sup_sz (by omega), _, rfl, ?_⟩
    rcases hy with rfl | ⟨i, rfl, hi⟩
    · refine .inl ⟨rfl, _, rfl, ?_, by simp, ea, rfl⟩
      rw [PySem.Str.length_append]
      have : ("None" : Str).length = 4 := rfl
      exact sup_sz (by omega)
    · refine .inr ⟨i, rfl, sup_log hi, _, rfl, ?_, by simp, ea, rfl⟩
      rw [PySem.Str.length_append]
      have := sup_len hi
      exact sup_sz (by omega)
  subst hX
  obtain ⟨pl, hpl⟩ := hat (PySem.W.ksEnv qual scope s.heap.objs.size f (.ref cda) cc)
  refine ks_wpAt_execs_cons (ks_wpAt_Expr_any ?_ (by show (scope.kind == _ && _) = false; rw [S.kind]; rfl) (hsw1 _))
  refine ks_wpAt_mono (sup_call (X := cxS CX P w K mg base ["self", x] qual scope f cda cc A outer s H E) T S.sup S.cls S.self (by show List.lookup _ [(("__class__" : Str), cc)] = some cc; simp [List.lookup]) rfl rfl lk har hself I ea rfl rfl pa (hat := hpl) (h := hargs)) (fun _ s2 hq => ?_) (fun _ _ z => z)
  obtain ⟨H2, I2, rfl⟩ := hq
  have hrun := (pss_one po).run [] s2 [some (.ref a), some y] H2 { nx := fun _ H' => Q .non H', rt := Q } I2 ⟨y, rfl, .ref a, rfl, a, C, rfl, T.ex, T.nofld, .inl ⟨ea, fun dx n1 n2 => hQ dx n1 n2⟩⟩
  refine PySem.wpAt_of_wpAny (wpAny_mono hrun (fun fl s' hs => ?_) fun e s' hs => hs)
  cases fl with
  | ret u =>
    obtain ⟨v, σ', H', J, rv, q⟩ := hs
    exact ⟨v, H', J.os, J.bare, J.base, J.hok, rv, q⟩
  | next =>
    obtain ⟨σ', H', J, q⟩ := hs
    exact ⟨V.non, H', J.os, J.bare, J.base, J.hok, rfl, q⟩
  | brk =>
    obtain ⟨_, _, _, q⟩ := hs
    exact False.elim q
  | cont =>
    obtain ⟨_, _, _, q⟩ := hs
    exact False.elim q
end
end LT

namespace LT
open PySem PySem.Spec PyProof.Rows L2
section
open PySem.W
variable {prog : Program} {w : World} {A : Around} {E : Value → Shared → Prop} {s : Shared} {K : Frag} {x D : Addr} {ox : Obj} {od : Option Obj}
/-- a data descriptor of the class comes first, whatever the instance's own dict has -/
theorem findObj_dataD {C : Addr} {name : Str} {a g : Value} (hc : (clsIn K C).isSome = true) (ha : findIn K (.ref C) name = some (some a)) (hg : specialIn K a "__get__" = some (some g)) (ht : takesIn K a = some true) : findObj K C od name = some (.bind g a) := by
  obtain ⟨cd, hc⟩ := Option.isSome_iff_exists.mp hc
  unfold findObj
  rw [hc, Option.bind_some, ha, Option.bind_some]
  simp [hg, ht]
theorem kin_classD {Q : Option Value → Shared → Prop} (T : ExcC K D) (X : K.In s.heap) (I : InstAt s.heap x ox D od) (h : Q (some (.ref D)) { s with toks := s.toks + 1 }) : wpAny (model prog w) A (getAttr? (.ref x) "__class__") Q E s := by
  have hf : findObj K D od "__class__" = some (.bind (.builtin "getset_descriptor.__get__") (.builtin "object.__class__")) := findObj_dataD (by obtain ⟨cd, hc, _⟩ := any_some T.hd; rw [hc]; rfl) T.ha T.hn T.ht
  obtain ⟨hp, g, d, t, os⟩ := s
  have L0 := I.type (M := model prog w)
  have L1 := looks_findIn (M := model prog w) X T.hg
  have L2 := looks_findIn (M := model prog w) X T.hk
  have L3 := looks_find (M := model prog w) X I hf
  have sub : Looks (model prog w) hp (isInstance (.ref x) (.type "BaseException")) true := L0.andThen (looks_subIn X T.hs)
  have hx0 : (false && onTheHeap (Value.builtin "BaseException.__getattribute__")) = false := rfl
  have hx2 : (Value.builtin "BaseException.__getattribute__" == Value.builtin "object.__getattribute__") = false := by decide +kernel
  have hx1 : (onTheHeap (Value.ref D) && Value.builtin "BaseException.__getattribute__" == Value.builtin "object.__getattribute__") = false := by rw [hx2]; rfl
  unfold getAttr? getAttrBy? getAttrBy
  refine wpAny_bind (wpAny_mkText (wpAny_bind (wpAny_attempt (wpAny_holding (wpAny_bind (L0.at (wpAny_bind (L1.at ?_))))))))
  show wpAny _ _ (if (onTheHeap (Value.ref D) && Value.builtin "BaseException.__getattribute__" == Value.builtin "object.__getattribute__") = true then _ else _) _ _ _
  rw [hx1, if_neg Bool.false_ne_true]
  unfold getAttrByItsOwn hookBefore
  refine wpAny_bind ?_
  rw [if_pos (show onTheHeap (Value.ref D) = true from rfl)]
  refine L2.at ?_
  refine wpAny_bind (wpAny_attempt (wpAny_holding ?_))
  unfold callGetattribute
  rw [hx0, if_neg Bool.false_ne_true]
  unfold boundAndCalled
  rw [PySem.F.excAttr_ValueError.ga.bind (.ref x)]
  refine wpAny_bind (wpAny_pure ?_)
  show wpAny _ _ (call (.builtin "BaseException.__getattribute__") [.ref x, .str "__class__" t]) _ _ _
  refine wpAny_call (codeAny_call_builtin PySem.F.excAttr_ValueError.ga.plain PySem.F.entry_bexc_ga ?_)
  refine @check_slot (model prog w) _ _ ⟨hp, g, d, t + 1, os⟩ "BaseException.__getattribute__" "BaseException" "__getattribute__" (.ref x) [.str "__class__" t] [] _ (by decide +kernel) (by decide +kernel) sub (PySem.F.args_bexc_ga (.ref x) (.str "__class__" t)) ?_
  unfold Builtin.«object.__getattribute__»
  refine wpAny_bind (wpAny_of_eq (a := ((Value.ref x : Value), [Value.str "__class__" t])) (by first | rfl | (simp only [slotArgs]; rfl)) ?_)
  refine wpAny_bind (wpAny_pure (wpAny_bind (L0.at (wpAny_bind (L3.at ?_)))))
  show wpAny _ _ (holding [Value.builtin "object.__class__"] (call (.builtin "getset_descriptor.__get__") [.builtin "object.__class__", .ref x, .ref D]) >>= ret) _ _ _
  refine wpAny_bind (wpAny_holding (wpAny_call (class_get (s := ⟨hp, g, d, t + 1, os⟩) (ox := ox) (od := od) X I T.hm ?_)))
  refine wpAny_pure ?_
  show wpAny _ _ (handedOut (.ref D)) _ _ _
  rw [handedOut_of (v := .ref D) rfl]
  first
    | exact wpAny_pure (wpAny_pure h)
    | exact wpAny_pure h
    | exact wpAny_pure (wpAny_bind (wpAny_pure (wpAny_pure h)))
theorem kitx_excD (T : ExcC K D) : KitX K (.ref x) (.ref D) (fun h => InstAt h x ox D od) where
  ty := fun _ _ _ I => I.type
  it := fun _ _ X _ => by
    obtain ⟨cdD, hcD, _⟩ := any_some T.hd
    unfold clsIn at hcD
    split at hcD
    · rename_i c' d' cd' sl' ho
      intro A' Q' E' s' k q
      unfold isType loadHead
      exact wpAny_bind (wpAny_loadPart (k _ _ (X _ _ ho)) (wpAny_pure q))
    · cases hcD
  ne := fun h tp dd its n sl X htp => by
    obtain ⟨cdD, hcD, _⟩ := any_some T.hd
    refine Bool.eq_false_iff.mpr fun q => ?_
    have e : D = tp := Value.ref.inj (beq_iff_eq.mp q)
    subst e
    unfold clsIn at hcD
    split at hcD
    · rename_i c' d' cd' sl' ho
      have z := (X _ _ ho).symm.trans htp
      cases z
    · cases hcD
  ca := fun X I k => kin_classD T X I k
end
/-- at a an exception of the class C, and its fields, if any -/
def Exc (H : Hp) (a C : Addr) (fs : Option (List (Str × V))) : Prop := (fs = none ∧ H a = some (ExK (.ref C) none a)) ∨ ∃ (d : Addr) (l : List (Str × V)), fs = some l ∧ H a = some (ExK (.ref C) (some d) a) ∧ H d = some (.xd l)
theorem Exc.same {H H' : Hp} {a C : Addr} {fs : Option (List (Str × V))} (h : Exc H a C fs) (s : ∀ b o, H b = some o → H' b = some o) : Exc H' a C fs := by
  rcases h with ⟨e, h⟩ | ⟨d, l, e, h1, h2⟩
  · exact .inl ⟨e, s _ _ h⟩
  · exact .inr ⟨d, l, e, s _ _ h1, s _ _ h2⟩
section
variable {X : Cx} {pins : List (Addr × Obj)} {σ : L2.St} {H : Hp} {s : Shared}
theorem Exc.inst {a C : Addr} {fs : Option (List (Str × V))} (I : Inv X pins σ H s) (h : Exc H a C fs) : ∃ (ob : Obj) (od : Option Obj), PySem.W.InstAt s.heap a ob C od ∧ ∀ l, fs = some l → ∃ (o : Obj) (mA : Str → Option Value), od = some o ∧ (∀ n, PySem.W.lookIn n o = some (mA n)) ∧ ∀ n, RelO (l.lookup n) (mA n) := by
  rcases h with ⟨rfl, h⟩ | ⟨d, l, rfl, h1, h2⟩
  · obtain ⟨⟨ob, fs, hget, hz, hd⟩, _, _⟩ := I.hok a _ h
    obtain ⟨oc, od, oda, osl⟩ := ob
    obtain ⟨z1, z2⟩ := hz
    dsimp only at z1 z2 hd
    subst z1 z2 hd
    exact ⟨_, none, ⟨hget, rfl, rfl, trivial⟩, fun l e => nomatch e⟩
  · obtain ⟨⟨ob, fs, hget, hz, hd⟩, _, _⟩ := I.hok a _ h1
    have hx : ObjOk X.prog X.w H s.heap d (.xd l) := I.hok d _ h2
    obtain ⟨mA, hns, hr⟩ := hx
    obtain ⟨o, ho, hl⟩ := lookIn_ns hns
    obtain ⟨oc, od, oda, osl⟩ := ob
    obtain ⟨z1, z2⟩ := hz
    dsimp only at z1 z2 hd
    subst z1 z2 hd
    refine ⟨_, some o, ⟨hget, rfl, rfl, ho⟩, fun l' e => ?_⟩
    cases e
    exact ⟨o, mA, rfl, hl, hr⟩
end
section
variable {X : Cx}
/-- isinstance(e, c), e an exception that is held -/
def rIsX (K : PySem.W.Frag) : List V → Hp → VK → Prop := fun xs H Q => ∃ (a D : Addr) (fs : Option (List (Str × V))) (c : V) (cv : Value) (b : Bool), xs = [.ref a, c] ∧ Exc H a D fs ∧ ExcC K D ∧ (∀ u, RelV c u → u = cv) ∧ PySem.W.kitOne K (.ref D) cv = some b ∧ Q (.bl b) H
theorem call_isX : CallR X (.builtin "isinstance") (rIsX X.K) := by
  intro pins s σ H xs us Q I r h
  obtain ⟨a, D, fs, c, cv, b, rfl, ha, C, hcv, e, q⟩ := h
  obtain ⟨u1, us1, rfl, r1, r2⟩ : ∃ u us', us = u :: us' ∧ RelV (.ref a) u ∧ Vals [c] us' := by
    cases r with | cons h t => exact ⟨_, _, rfl, h, t⟩
  obtain ⟨u2, rfl, r3⟩ := vals1 r2
  cases r1
  have ec := hcv _ r3
  subst ec
  obtain ⟨ob, od, J, _⟩ := ha.inst I
  refine PySem.W.kia_one (kitx_excD C) I.kIn J e (fun z => nomatch z) ?_
  intro tk
  exact ⟨.bl b, H, I.kept (t' := tk) fun _ _ z => z, rfl, q⟩
/-- e.f, e an exception that is held -/
theorem pe_fldX {e : Expr} {te : TE} {pos : Pos} {n : Str} (he : PE X e te) (hb : attributeBase e n X.env (eval e X.env) = eval e X.env := by rfl) :
    PE X (.Attribute e n pos) (fun σ H Q => te σ H fun x H1 => ∃ (a C : Addr) (l : List (Str × V)) (v : V), x = .ref a ∧ Exc H1 a C (some l) ∧ XfC X.K C ∧ PySem.W.findIn X.K (.ref C) n = some none ∧ l.lookup n = some v ∧ Q v H1) := by
  refine ⟨fun pins s σ H Q I h => ?_⟩
  refine attr_of hb (thn (he.run pins s σ H _ I h) fun u s1 hh => ?_)
  obtain ⟨x, H1, I1, rx, a, C, l, v, rfl, hx, T, hno, hl, q⟩ := hh
  obtain rfl : u = Value.ref a := rx
  obtain ⟨ob, od, J, hf⟩ := hx.inst I1
  obtain ⟨o, mA, rfl, ho, hr⟩ := hf l rfl
  obtain ⟨u, hu, ru⟩ := RelO.some_of (v := v) (o := mA n) (by rw [← hl]; exact hr n)
  exact HandSPX.exc_get I1.kIn J T.ga T.gg T.exC (PySem.W.findObj_own T.hdC hno rfl (by rw [ho, hu])) (handed_of ru) ⟨v, H1, I1.tok _, ru, q⟩
end
/-- what the top says of an own class of errors whose __init__ keeps one field -/
structure SX (P : Program) (w : World) (K : PySem.W.Frag) (mg : Str → Option Value) (base : Heap) (x : Str) (C : Addr) (fld : Str) : Prop where
  g : mg x = some (.ref C)
  ex : OexC K C
  init : ∃ (fI : Addr) (fd : FuncData) (ps : List Str), PySem.W.findIn K (.ref C) "__init__" = some (some (.ref fI)) ∧ PySem.W.typeIn K (.ref fI) = some (.type "function") ∧ FnOk P w K mg base CX0 1 fI fd ps (spInit C fld) ∧ Binds K fd ps []
section
variable {X : Cx} {x fld : Str} {C : Addr} {e : Expr} {ta : TA} {p pos : Pos}
/-- what may be kept in the field: nothing, or a number that is not too great -/
def Held (y : V) : Prop := y = .non ∨ ∃ i : Int, y = .int i ∧ i.natAbs < 10 ^ 66
theorem pa_mono {es : List Expr} (ha : PA X es ta) : PA X es (fun σ H Q => ∃ Q1 : List V → Hp → Prop, ta σ H Q1 ∧ ∀ vs H1, Q1 vs H1 → Q vs H1) :=
  ⟨fun pos pins s σ H Q I ⟨Q1, h, m⟩ => thn (ha.run pos pins s σ H Q1 I h) fun us s' ⟨vs, H1, I1, r, q⟩ => ⟨vs, H1, I1, r, m vs H1 q⟩⟩
/-- raise C(e) -/
theorem pmk_sup (T : SX X.prog X.w X.K X.mg X.base x C fld) (hr : Room 2 X.A) (hg : Gl X x) (ha : PA X [e] ta) (hdb : (x == ("__debug__" : Str)) = false := by decide)
    (he : starEach [e] X.env = (false, eval e X.env) :: starEach [] X.env := by rfl) (hpl : (backTo pos (starEach [] X.env)).any (·.1) = false := by rfl) :
    PMk X (.Call (.Name x p) [e] [] pos) (fun σ H Q => ta σ H fun vs H1 => ∃ y, vs = [y] ∧ Held y ∧ ∀ d, H1 d = none → Q (.ref C) (some d) (upd H1 d (.xd [(fld, y)]))) := by
  obtain ⟨fI, fd, ps, i1, i2, F, B⟩ := T.init
  intro pins s σ H Q I h
  refine pmk_oex T.ex i1 i2 F hr B .nil pass0 hg T.g (pa_mono ha) hdb he hpl pins s σ H Q I ⟨_, h, fun vs H1 hh => ?_⟩
  obtain ⟨y, rfl, hy, hq⟩ := hh
  refine ⟨by simp, fun a na => ⟨a, y, rfl, upd_same, hy, fun dx n1 n2 => ⟨rfl, dx, [(fld, y)], upd_same, ?_, ?_, ?_⟩⟩⟩
  · rw [upd_ne n2, upd_same]
  · rw [upd_ne n2] at n1
    exact n1
  · rw [upd_ne n2] at n1
    have e : upd (del (upd (upd (upd H1 a (exo a C none)) dx (exd dx [(fld, y)])) a (exo a C (some dx))) a) dx (.xd [(fld, y)]) = upd H1 dx (.xd [(fld, y)]) := by
      funext b
      by_cases hb : b = dx
      · rw [hb, upd_same, upd_same]
      · rw [upd_ne hb, upd_ne hb]
        by_cases hc : b = a
        · rw [hc, del_same, na]
        · rw [del_ne hc, upd_ne hc, upd_ne hb, upd_ne hc]
    rw [e]
    exact hq dx n1
/-- C(e), as a value -/
theorem pe_sup (T : SX X.prog X.w X.K X.mg X.base x C fld) (hr : Room 2 X.A) (hg : Gl X x) (ha : PA X [e] ta) (hdb : (x == ("__debug__" : Str)) = false := by decide)
    (he : starEach [e] X.env = (false, eval e X.env) :: starEach [] X.env := by rfl) (hpl : (backTo pos (starEach [] X.env)).any (·.1) = false := by rfl) :
    PE X (.Call (.Name x p) [e] [] pos) (fun σ H Q => ta σ H fun vs H1 => ∃ y, vs = [y] ∧ Held y ∧ ∀ a d, H1 a = none → H1 d = none → d ≠ a → Q (.ref a) (upd (upd H1 d (.xd [(fld, y)])) a (ExK (.ref C) (some d) a))) := by
  refine ⟨fun pins s σ H Q I h => ?_⟩
  refine wpAny_mono (pmk_sup T hr hg (pa_mono ha) hdb he hpl pins s σ H (fun cls d G => ∃ H1 y dd, cls = .ref C ∧ d = some dd ∧ G = upd H1 dd (.xd [(fld, y)]) ∧ H1 dd = none ∧ ∀ a, H1 a = none → dd ≠ a → Q (.ref a) (upd (upd H1 dd (.xd [(fld, y)])) a (ExK (.ref C) (some dd) a))) I ?_) (fun u s' hu => ?_) fun _ _ z => z
  · refine ⟨_, h, fun vs H1 hh => ?_⟩
    obtain ⟨y, rfl, hy, hq⟩ := hh
    exact ⟨y, rfl, hy, fun d n => ⟨H1, y, d, rfl, rfl, rfl, n, fun a na ne => hq a d na n ne⟩⟩
  · obtain ⟨a, oe, vs, sI, G, cls, d, rfl, J, k, n0, ga, hz, hd, h1, na, os, bare, _, H1, y, dd, rfl, rfl, rfl, nd, q⟩ := hu
    have ne : dd ≠ a := fun z => by
      rw [z, upd_same] at na
      cases na
    have J2 := J.laidN (h' := s'.heap) (t' := s'.toks) k n0 na (exK_ok (cls := .ref C) (d := some dd) ga hz hd)
    rw [upd_ne (Ne.symm ne)] at na
    exact ⟨.ref a, _, ⟨J2.ok, os.trans J2.os, bare, J2.base, J2.loc, J2.cell, J2.free, J2.freeC, J2.pin, J2.hok, J2.len⟩, rfl, q a na ne⟩
/-- C(e), C without an __init__ of its own, as a value -/
theorem pe_exV {bmB : List Value} {B newId initId : String} {te : TE} (F : ExcBaseFacts B newId initId bmB) (q : PySem.W.excIn X.K C bmB newId = true) (gC : X.mg x = some (.ref C)) (kC : PySem.W.keepIn X.K (.ref C) = true) (hg : Gl X x)
    (he : PE X e te) (hs : starEach [e] X.env = (false, eval e X.env) :: starEach [] X.env := by rfl) (hdb : (x == ("__debug__" : Str)) = false := by decide) :
    PE X (.Call (.Name x p) [e] [] pos) (fun σ H Q => te σ H fun _ H1 => ∀ a, H1 a = none → Q (.ref a) (upd H1 a (ExK (.ref C) none a))) := by
  refine ⟨fun pins s σ H Q I h => ?_⟩
  refine wpAny_Call_Name_kw (ld_glob I hg gC ?_ hdb)
  refine PySem.W.callWith_K (h₀ := X.base) I.ok.mod.kin kC ?_ hs (by rfl)
  rw [hs]
  show wpAny _ _ (spliced ((false, eval e X.env) :: backTo pos (starEach [] X.env))) _ _ s
  refine Calls.spliced_cons (thn (he.run pins s σ H _ I h) fun u s1 ⟨v, H1, I1, r1, q1⟩ => ?_)
  refine Calls.spliced_nil ⟨I1.kIn, ?_⟩
  show wpAny _ _ (call (.ref C) [u]) _ _ _
  obtain ⟨bm, N, nm, qn, bs, hdct, sn, sub, ab, col, dd, k0, k1, k2, k3, k5, mN, hC, hN, hni, T⟩ := exc_obj I1.kIn q
  refine wpAny_call_exc_subT F T hC hN hni (fun h' a hm => ?_) (by show 1 ≤ sizeLine; rw [sizeLine_eq]; omega)
  have hn : H1 a = none := I1.hok.gone hm.new
  obtain ⟨t, ht, _, _⟩ := hm.there
  exact ⟨.ref a, upd H1 a (ExK (.ref C) none a), I1.laidN hm.keeps hm.new hn (exK_ok ht ⟨rfl, rfl⟩ rfl), rfl, q1 a hn⟩end
end LT

namespace LT
open PySem PySem.Spec PyProof.Rows L2
section
variable {P : Program} {w : World} {K : PySem.W.Frag} {mg : Str → Option Value} {base : Heap}
def spBag : Sp := fun vs H Q _ => ∃ c : Int, vs = [.int c] ∧ ∀ (H' : Hp) (p : Addr), Same H H' → H p = none → BagAt H' p → Q (.ref p) H'
theorem ok_law_bag {f : Addr} {fd : FuncData} (F : Fun K "_law_bag" "_law_bag" sLawBag f fd) (z_max : mg "max" = none) : FnOk P w K mg base CX0 1 f fd ["cell"] spBag := by
  refine F.ok scLawBag (fun vs H Q E h => ?_) (fun cdv A outer s H vs Q E hr h => ?_)
  · obtain ⟨_, rfl, _⟩ := h
    rfl
  obtain ⟨c, rfl, q⟩ := h
  refine ⟨_, (pss_one (ps_ret (pe_lst (pa_cons (pe_callB (call_max2 rfl) (by rfl) z_max (by decide +kernel) (pa_cons pe_int (pa_cons (pe_op op_sub (pv 0) (pe_op op_pow pe_int pe_int)) pa_nil))) (pa_cons (pv 0) (pa_cons pe_int pa_nil)))))), ?_⟩
  refine ⟨_, rfl, _, _, rfl, rfl, ⟨by decide, by decide, by decide⟩, _, _, rfl, rfl, _, _, rfl, _, rfl, (by show 3 ≤ sizeLine; decide), fun p np => ?_⟩
  exact q _ p (same_upd np) np ⟨_, _, _, upd_same⟩
theorem fm0 (x : Int) {m : Int} (h : 0 < m) : 0 ≤ x.fmod m := by
  rw [Int.fmod_eq_emod_of_nonneg _ (by omega)]
  exact Int.emod_nonneg _ (by omega)
theorem fm1 (x : Int) {m : Int} (h : 0 < m) : x.fmod m < m := by
  rw [Int.fmod_eq_emod_of_nonneg _ (by omega)]
  exact Int.emod_lt_of_pos _ h
def spPick : Sp := fun vs H Q _ => ∃ (b : Addr) (many : Int), vs = [.ref b, .int many] ∧ 0 < many ∧ many.natAbs < 2 ^ 250 ∧ BagAt H b ∧
  ∀ (r : Int) (H' : Hp), 0 ≤ r → r < many → (∀ a, a ≠ b → H' a = H a) → BagAt H' b → Q (.int r) H'
theorem ok_law_pick {f : Addr} {fd : FuncData} (F : Fun K "_law_pick" "_law_pick" sLawPick f fd) (z_int : mg "int" = none) : FnOk P w K mg base CX0 1 f fd ["bag", "many"] spPick := by
  refine F.ok scLawPick (fun vs H Q E h => ?_) (fun cdv A outer s H vs Q E hr h => ?_)
  · obtain ⟨_, _, rfl, _⟩ := h
    rfl
  obtain ⟨b, many, rfl, hm, hm2, ⟨x, y, z, h0⟩, q⟩ := h
  refine ⟨_, (pss_cons (ps_asg (pe_op op_add (pe_ix ix_list (pv 0) pe_int (fun _ _ => rfl)) pe_int) (pg_sub (pv 0) pe_int set_list))
    (pss_cons (ps_if (pt_cmpR op_gt (pe_ix ix_list (pv 0) pe_int (fun _ _ => rfl)) pe_int (nomark _))
    (pss_cons (ps_set (i := 2) scLawPick.nd rfl (Or.inl rfl) (pe_op op_modN (pe_callTy call_int1 (by rfl) z_int (by decide +kernel) (pa_cons (pe_ix ix_list (pv 0) pe_int (fun _ _ => rfl)) pa_nil)) (pv 1)))
    (pss_cons (ps_asg (pe_op op_fdivW (pe_callTy call_int1 (by rfl) z_int (by decide +kernel) (pa_cons (pe_ix ix_list (pv 0) pe_int (fun _ _ => rfl)) pa_nil)) (pv 1)) (pg_sub (pv 0) pe_int set_list))
    (pss_one (ps_ret (pv 2)))))
    pss_nil)
    (pss_cons (ps_par (i := 3) (j := 4) (by rfl) scLawPick.nd rfl rfl (by decide) rfl rfl (pa_cons (pe_callTy call_int1 (by rfl) z_int (by decide +kernel) (pa_cons (pe_ix ix_list (pv 0) pe_int (fun _ _ => rfl)) pa_nil)) (pa_cons (pe_callTy call_int1 (by rfl) z_int (by decide +kernel) (pa_cons (pe_ix ix_list (pv 0) pe_int (fun _ _ => rfl)) pa_nil)) pa_nil)) (by rfl))
    (pss_cons (ps_set (i := 5) scLawPick.nd rfl (Or.inl rfl) (pe_op op_modN (pe_callTy call_int1 (by rfl) z_int (by decide +kernel) (pa_cons (pe_op op_add (pe_op op_add (pe_op op_mul (pe_op op_modN (pv 3) pe_int) pe_int) (pe_op op_mul (pv 4) pe_int)) pe_int) pa_nil)) pe_int))
    (pss_cons (ps_set (i := 6) scLawPick.nd rfl (Or.inl rfl) (pe_op op_modN (pe_callTy call_int1 (by rfl) z_int (by decide +kernel) (pa_cons (pe_op op_add (pe_op op_mul (pv 5) (pv 5)) (pe_op op_mul (pv 4) pe_int)) pa_nil)) pe_int))
    (pss_cons (ps_set (i := 7) scLawPick.nd rfl (Or.inl rfl) (pe_op op_fdivW (pe_callTy call_int1 (by rfl) z_int (by decide +kernel) (pa_cons (pe_op op_add (pe_op op_mul (pv 5) pe_int) (pv 6)) pa_nil)) pe_int))
    (pss_cons (ps_if (pt_cmpR op_gt (pv 1) (pe_op op_pow pe_int pe_int) (nomark _))
    (pss_one (ps_set (i := 7) scLawPick.nd rfl (Or.inl rfl) (pe_op op_add (pe_op op_pow (pv 7) pe_int) (pv 6))))
    pss_nil)
    (pss_one (ps_ret (pe_op op_modN (pe_callTy call_int1 (by rfl) z_int (by decide +kernel) (pa_cons (pv 7) pa_nil)) (pv 1))))))))))), ?_⟩
  refine ⟨_, rfl, b, _, _, _, rfl, rfl, SqL.of h0, atI_nat (j := 2) rfl, _, _, rfl, rfl, _, rfl, b, _, _, 2, rfl, rfl, h0, rfl, ?_⟩
  dsimp only
  have h1 : (upd H b (.lst ([.int x, .int y, .int z].set 2 (.int (z + 1))))) b = some (.lst [.int x, .int y, .int (z + 1)]) := upd_same
  have k1 : ∀ a, a ≠ b → (upd H b (.lst ([.int x, .int y, .int z].set 2 (.int (z + 1))))) a = H a := fun a ha => upd_ne ha
  generalize upd H b (.lst ([.int x, .int y, .int z].set 2 (.int (z + 1)))) = H1 at h1 k1
  refine ⟨_, rfl, b, _, _, _, rfl, rfl, SqL.of h1, atI_nat (j := 0) rfl, _, _, rfl, rfl, _, rfl, ite2 (fun c => ?_) (fun c => ?_)⟩
  · refine ⟨_, rfl, b, _, _, _, rfl, rfl, SqL.of h1, atI_nat (j := 0) rfl, .inl ⟨_, rfl, _, rfl, _, _, rfl, rfl, by omega, ?_⟩⟩
    refine ⟨_, rfl, b, _, _, _, rfl, rfl, SqL.of h1, atI_nat (j := 0) rfl, .inl ⟨_, rfl, _, rfl, _, _, rfl, rfl, wide_div hm hm2 (by decide) (by decide), _, rfl, b, _, _, 0, rfl, rfl, h1, rfl, ?_⟩⟩
    refine ⟨_, rfl, ?_⟩
    exact q _ _ (fm0 x hm) (fm1 x hm) (fun a ha => by rw [upd_ne ha]; exact k1 a ha) ⟨_, _, _, upd_same⟩
  · refine ⟨_, rfl, b, _, _, _, rfl, rfl, SqL.of h1, atI_nat (j := 1) rfl, .inl ⟨_, rfl, _, rfl, b, _, _, _, rfl, rfl, SqL.of h1, atI_nat (j := 2) rfl, .inl ⟨_, rfl, _, _, rfl, ?_⟩⟩⟩
    refine ⟨_, rfl, _, _, rfl, rfl, (by show (2147483629 : Int) ≠ 0; decide), _, _, rfl, rfl, .inr ⟨by decide, by decide⟩, _, rfl, _, _, rfl, rfl, .inr ⟨by decide, by decide⟩, _, _, rfl, rfl, _, _, rfl, rfl, .inl ⟨_, rfl, _, _, rfl, rfl, (by show (2147483647 : Int) ≠ 0; decide), ?_⟩⟩
    dsimp only
    have a0 := fm0 (y.fmod 2147483629 * 48271 + (z + 1) * 69621 + 12345) (m := 2147483647) (by decide)
    have a1 := fm1 (y.fmod 2147483629 * 48271 + (z + 1) * 69621 + 12345) (m := 2147483647) (by decide)
    generalize (y.fmod 2147483629 * 48271 + (z + 1) * 69621 + 12345).fmod 2147483647 = fi at a0 a1
    refine ⟨_, rfl, _, rfl, _, _, rfl, rfl, .inl ⟨by omega, by omega⟩, _, rfl, _, _, rfl, rfl, .inr ⟨by decide, by decide⟩, _, _, rfl, rfl, .inl ⟨_, rfl, _, _, rfl, rfl, (by show (2147483587 : Int) ≠ 0; decide), ?_⟩⟩
    dsimp only
    have b0 := fm0 (fi * fi + (z + 1) * 40692) (m := 2147483587) (by decide)
    have b1 := fm1 (fi * fi + (z + 1) * 40692) (m := 2147483587) (by decide)
    generalize (fi * fi + (z + 1) * 40692).fmod 2147483587 = se at b0 b1
    refine ⟨_, rfl, _, _, rfl, rfl, .inl ⟨by omega, by omega⟩, _, rfl, _, _, rfl, rfl, .inl ⟨_, rfl, _, _, rfl, rfl, wide_div (b := 6) (by decide) (by decide) (by decide) (by decide), ?_⟩⟩
    dsimp only
    have c0 : 0 ≤ (fi * 2147483587 + se) / 32 := by omega
    have c1 : (fi * 2147483587 + se) / 32 < 2 ^ 62 := by omega
    generalize (fi * 2147483587 + se) / 32 = dr at c0 c1
    refine ⟨_, rfl, _, _, rfl, rfl, ⟨by decide, by decide, by decide⟩, _, _, rfl, rfl, _, rfl, ite2 (fun c => ?_) (fun c => ?_)⟩
    · refine ⟨_, rfl, _, _, rfl, rfl, ⟨by decide, by decide, by omega⟩, _, rfl, _, _, rfl, rfl, ?_⟩
      refine ⟨_, rfl, .inl ⟨_, rfl, _, rfl, _, _, rfl, rfl, by omega, ?_⟩⟩
      exact q _ _ (fm0 _ hm) (fm1 _ hm) k1 ⟨_, _, _, h1⟩
    · refine ⟨_, rfl, .inl ⟨_, rfl, _, rfl, _, _, rfl, rfl, by omega, ?_⟩⟩
      exact q _ _ (fm0 _ hm) (fm1 _ hm) k1 ⟨_, _, _, h1⟩
end
end LT

namespace LT
open PySem PySem.Spec PyProof.Rows L2
structure GF (mg : Str → Option Value) (x : Str) (C : Addr) : Prop where
  g : mg x = some (.ref C)
/-- an instance of the class at C is asked for each of the classes -/
def Kit (K : PySem.W.Frag) (C : Addr) : List Addr → List Bool → Prop
  | [], [] => True
  | D :: Ds, b :: bs => PySem.W.kitOne K (.ref C) (.ref D) = some b ∧ Kit K C Ds bs
  | _, _ => False
section
variable {P : Program} {w : World} {K : PySem.W.Frag} {mg : Str → Option Value} {base : Heap} {CInvalidSpans CInvalidNodes CInvalidBounds CInvalidText COverBudget CInvalidSize CInvalidEntry CInvalidNode CInvalidSpan CInvalidNumber CInvalidHeight CInvalidBudget CInvalidOperation CNothing CInvalidCommand : Addr}
def spClasses (K : PySem.W.Frag) (Cs : List Addr) : Sp := fun vs H Q _ => ∃ (a C : Addr) (fs : Option (List (Str × V))) (bs : List Bool), vs = [.ref a] ∧ Exc H a C fs ∧ ExcC K C ∧ Kit K C Cs bs ∧ ∀ (H' : Hp) (p : Addr), Same H H' → H p = none → H' p = some (.lst (bs.map V.bl)) → Q (.ref p) H'
theorem ok_law_classes {f : Addr} {fd : FuncData} (F : Fun K "_law_classes" "_law_classes" sLawClasses f fd) (XInvalidSpans : GF mg "InvalidSpans" CInvalidSpans) (XInvalidNodes : GF mg "InvalidNodes" CInvalidNodes) (XInvalidBounds : GF mg "InvalidBounds" CInvalidBounds) (XInvalidText : GF mg "InvalidText" CInvalidText) (XOverBudget : GF mg "OverBudget" COverBudget) (XInvalidSize : GF mg "InvalidSize" CInvalidSize) (XInvalidEntry : GF mg "InvalidEntry" CInvalidEntry) (XInvalidNode : GF mg "InvalidNode" CInvalidNode) (XInvalidSpan : GF mg "InvalidSpan" CInvalidSpan) (XInvalidNumber : GF mg "InvalidNumber" CInvalidNumber) (XInvalidHeight : GF mg "InvalidHeight" CInvalidHeight) (XInvalidBudget : GF mg "InvalidBudget" CInvalidBudget) (XInvalidOperation : GF mg "InvalidOperation" CInvalidOperation) (XNothing : GF mg "Nothing" CNothing) (XInvalidCommand : GF mg "InvalidCommand" CInvalidCommand) (z_isinstance : mg "isinstance" = none) : FnOk P w K mg base CX0 1 f fd ["one"] (spClasses K [CInvalidSpans, CInvalidNodes, CInvalidBounds, CInvalidText, COverBudget, CInvalidSize, CInvalidEntry, CInvalidNode, CInvalidSpan, CInvalidNumber, CInvalidHeight, CInvalidBudget, CInvalidOperation, CNothing, CInvalidCommand]) := by
  refine F.ok scLawClasses (fun vs H Q E h => ?_) (fun cdv A outer s H vs Q E hr h => ?_)
  · obtain ⟨_, _, _, _, rfl, _⟩ := h
    rfl
  obtain ⟨a, C, fs, bs, rfl, hx, hE, hk, q⟩ := h
  obtain ⟨b0, b1, b2, b3, b4, b5, b6, b7, b8, b9, b10, b11, b12, b13, b14, rfl⟩ : ∃ b0 b1 b2 b3 b4 b5 b6 b7 b8 b9 b10 b11 b12 b13 b14, bs = [b0, b1, b2, b3, b4, b5, b6, b7, b8, b9, b10, b11, b12, b13, b14] := by
    match bs, hk with
    | [b0, b1, b2, b3, b4, b5, b6, b7, b8, b9, b10, b11, b12, b13, b14], _ => exact ⟨_, _, _, _, _, _, _, _, _, _, _, _, _, _, _, rfl⟩
  obtain ⟨k0, k1, k2, k3, k4, k5, k6, k7, k8, k9, k10, k11, k12, k13, k14, _⟩ := hk
  refine' ⟨_, (pss_cons (ps_set (i := 1) scLawClasses.nd rfl (Or.inl rfl) (pe_lst (pa_cons (pe_callB call_isX (by rfl) z_isinstance (by decide +kernel) (pa_cons (pv 0) (pa_cons (pe_glob (v := .ref CInvalidSpans) rfl XInvalidSpans.g rfl) pa_nil))) (pa_cons (pe_callB call_isX (by rfl) z_isinstance (by decide +kernel) (pa_cons (pv 0) (pa_cons (pe_glob (v := .ref CInvalidNodes) rfl XInvalidNodes.g rfl) pa_nil))) (pa_cons (pe_callB call_isX (by rfl) z_isinstance (by decide +kernel) (pa_cons (pv 0) (pa_cons (pe_glob (v := .ref CInvalidBounds) rfl XInvalidBounds.g rfl) pa_nil))) pa_nil)))))
    (pss_cons (ps_set (i := 1) scLawClasses.nd rfl (Or.inl rfl) (pe_op op_cat (pv 1) (pe_lst (pa_cons (pe_callB call_isX (by rfl) z_isinstance (by decide +kernel) (pa_cons (pv 0) (pa_cons (pe_glob (v := .ref CInvalidText) rfl XInvalidText.g rfl) pa_nil))) (pa_cons (pe_callB call_isX (by rfl) z_isinstance (by decide +kernel) (pa_cons (pv 0) (pa_cons (pe_glob (v := .ref COverBudget) rfl XOverBudget.g rfl) pa_nil))) (pa_cons (pe_callB call_isX (by rfl) z_isinstance (by decide +kernel) (pa_cons (pv 0) (pa_cons (pe_glob (v := .ref CInvalidSize) rfl XInvalidSize.g rfl) pa_nil))) pa_nil))))))
    (pss_cons (ps_set (i := 1) scLawClasses.nd rfl (Or.inl rfl) (pe_op op_cat (pv 1) (pe_lst (pa_cons (pe_callB call_isX (by rfl) z_isinstance (by decide +kernel) (pa_cons (pv 0) (pa_cons (pe_glob (v := .ref CInvalidEntry) rfl XInvalidEntry.g rfl) pa_nil))) (pa_cons (pe_callB call_isX (by rfl) z_isinstance (by decide +kernel) (pa_cons (pv 0) (pa_cons (pe_glob (v := .ref CInvalidNode) rfl XInvalidNode.g rfl) pa_nil))) (pa_cons (pe_callB call_isX (by rfl) z_isinstance (by decide +kernel) (pa_cons (pv 0) (pa_cons (pe_glob (v := .ref CInvalidSpan) rfl XInvalidSpan.g rfl) pa_nil))) pa_nil))))))
    (pss_cons (ps_set (i := 1) scLawClasses.nd rfl (Or.inl rfl) (pe_op op_cat (pv 1) (pe_lst (pa_cons (pe_callB call_isX (by rfl) z_isinstance (by decide +kernel) (pa_cons (pv 0) (pa_cons (pe_glob (v := .ref CInvalidNumber) rfl XInvalidNumber.g rfl) pa_nil))) (pa_cons (pe_callB call_isX (by rfl) z_isinstance (by decide +kernel) (pa_cons (pv 0) (pa_cons (pe_glob (v := .ref CInvalidHeight) rfl XInvalidHeight.g rfl) pa_nil))) (pa_cons (pe_callB call_isX (by rfl) z_isinstance (by decide +kernel) (pa_cons (pv 0) (pa_cons (pe_glob (v := .ref CInvalidBudget) rfl XInvalidBudget.g rfl) pa_nil))) pa_nil))))))
    (pss_cons (ps_set (i := 1) scLawClasses.nd rfl (Or.inl rfl) (pe_op op_cat (pv 1) (pe_lst (pa_cons (pe_callB call_isX (by rfl) z_isinstance (by decide +kernel) (pa_cons (pv 0) (pa_cons (pe_glob (v := .ref CInvalidOperation) rfl XInvalidOperation.g rfl) pa_nil))) (pa_cons (pe_callB call_isX (by rfl) z_isinstance (by decide +kernel) (pa_cons (pv 0) (pa_cons (pe_glob (v := .ref CNothing) rfl XNothing.g rfl) pa_nil))) pa_nil)))))
    (pss_one (ps_ret (pe_op op_cat (pv 1) (pe_lst (pa_cons (pe_callB call_isX (by rfl) z_isinstance (by decide +kernel) (pa_cons (pv 0) (pa_cons (pe_glob (v := .ref CInvalidCommand) rfl XInvalidCommand.g rfl) pa_nil))) pa_nil)))))))))), ?_⟩
  refine ⟨_, rfl, a, C, fs, _, _, b0, rfl, hx, hE, (fun u r => r), k0, _, rfl, a, C, fs, _, _, b1, rfl, hx, hE, (fun u r => r), k1, _, rfl, a, C, fs, _, _, b2, rfl, hx, hE, (fun u r => r), k2, (by show 3 ≤ sizeLine; decide), fun l0 nl0 => ?_⟩
  have sl0 := same_upd (H := H) (o := .lst [.bl b0, .bl b1, .bl b2]) nl0
  have hl0 : (upd H l0 (.lst [.bl b0, .bl b1, .bl b2])) l0 = some (.lst [.bl b0, .bl b1, .bl b2]) := upd_same
  have nf1 := nl0
  have sm1 := sl0
  have hS1 := hl0
  generalize upd H l0 (.lst [.bl b0, .bl b1, .bl b2]) = J1 at sm1 hS1 ⊢
  have hx1 := hx.same sm1
  clear sl0 hl0 nl0
  refine ⟨_, rfl, _, rfl, a, C, fs, _, _, b3, rfl, hx1, hE, (fun u r => r), k3, _, rfl, a, C, fs, _, _, b4, rfl, hx1, hE, (fun u r => r), k4, _, rfl, a, C, fs, _, _, b5, rfl, hx1, hE, (fun u r => r), k5, (by show 3 ≤ sizeLine; decide), fun l1 nl1 => ?_⟩
  have sl1 := same_upd (H := J1) (o := .lst [.bl b3, .bl b4, .bl b5]) nl1
  have hl1 : (upd J1 l1 (.lst [.bl b3, .bl b4, .bl b5])) l1 = some (.lst [.bl b3, .bl b4, .bl b5]) := upd_same
  refine ⟨l0, l1, _, _, rfl, rfl, sl1 _ _ hS1, hl1, (by show 6 ≤ sizeLine; decide), fun r1 nr1 => ?_⟩
  have sm2 := sm1.trans (sl1.trans (same_upd (H := upd J1 l1 (.lst [.bl b3, .bl b4, .bl b5])) (o := .lst ([V.bl b0, V.bl b1, V.bl b2] ++ [.bl b3, .bl b4, .bl b5])) nr1))
  have nf2 := (sm1.trans sl1).free nr1
  have hS2 : (upd (upd J1 l1 (.lst [.bl b3, .bl b4, .bl b5])) r1 (.lst ([V.bl b0, V.bl b1, V.bl b2] ++ [.bl b3, .bl b4, .bl b5]))) r1 = some (.lst [V.bl b0, V.bl b1, V.bl b2, V.bl b3, V.bl b4, V.bl b5]) := upd_same
  generalize upd (upd J1 l1 (.lst [.bl b3, .bl b4, .bl b5])) r1 (.lst ([V.bl b0, V.bl b1, V.bl b2] ++ [.bl b3, .bl b4, .bl b5])) = J2 at sm2 hS2 ⊢
  have hx2 := hx.same sm2
  clear sl1 hl1
  refine ⟨_, rfl, _, rfl, a, C, fs, _, _, b6, rfl, hx2, hE, (fun u r => r), k6, _, rfl, a, C, fs, _, _, b7, rfl, hx2, hE, (fun u r => r), k7, _, rfl, a, C, fs, _, _, b8, rfl, hx2, hE, (fun u r => r), k8, (by show 3 ≤ sizeLine; decide), fun l2 nl2 => ?_⟩
  have sl2 := same_upd (H := J2) (o := .lst [.bl b6, .bl b7, .bl b8]) nl2
  have hl2 : (upd J2 l2 (.lst [.bl b6, .bl b7, .bl b8])) l2 = some (.lst [.bl b6, .bl b7, .bl b8]) := upd_same
  refine ⟨r1, l2, _, _, rfl, rfl, sl2 _ _ hS2, hl2, (by show 9 ≤ sizeLine; decide), fun r2 nr2 => ?_⟩
  have sm3 := sm2.trans (sl2.trans (same_upd (H := upd J2 l2 (.lst [.bl b6, .bl b7, .bl b8])) (o := .lst ([V.bl b0, V.bl b1, V.bl b2, V.bl b3, V.bl b4, V.bl b5] ++ [.bl b6, .bl b7, .bl b8])) nr2))
  have nf3 := (sm2.trans sl2).free nr2
  have hS3 : (upd (upd J2 l2 (.lst [.bl b6, .bl b7, .bl b8])) r2 (.lst ([V.bl b0, V.bl b1, V.bl b2, V.bl b3, V.bl b4, V.bl b5] ++ [.bl b6, .bl b7, .bl b8]))) r2 = some (.lst [V.bl b0, V.bl b1, V.bl b2, V.bl b3, V.bl b4, V.bl b5, V.bl b6, V.bl b7, V.bl b8]) := upd_same
  generalize upd (upd J2 l2 (.lst [.bl b6, .bl b7, .bl b8])) r2 (.lst ([V.bl b0, V.bl b1, V.bl b2, V.bl b3, V.bl b4, V.bl b5] ++ [.bl b6, .bl b7, .bl b8])) = J3 at sm3 hS3 ⊢
  have hx3 := hx.same sm3
  clear sl2 hl2
  refine ⟨_, rfl, _, rfl, a, C, fs, _, _, b9, rfl, hx3, hE, (fun u r => r), k9, _, rfl, a, C, fs, _, _, b10, rfl, hx3, hE, (fun u r => r), k10, _, rfl, a, C, fs, _, _, b11, rfl, hx3, hE, (fun u r => r), k11, (by show 3 ≤ sizeLine; decide), fun l3 nl3 => ?_⟩
  have sl3 := same_upd (H := J3) (o := .lst [.bl b9, .bl b10, .bl b11]) nl3
  have hl3 : (upd J3 l3 (.lst [.bl b9, .bl b10, .bl b11])) l3 = some (.lst [.bl b9, .bl b10, .bl b11]) := upd_same
  refine ⟨r2, l3, _, _, rfl, rfl, sl3 _ _ hS3, hl3, (by show 12 ≤ sizeLine; decide), fun r3 nr3 => ?_⟩
  have sm4 := sm3.trans (sl3.trans (same_upd (H := upd J3 l3 (.lst [.bl b9, .bl b10, .bl b11])) (o := .lst ([V.bl b0, V.bl b1, V.bl b2, V.bl b3, V.bl b4, V.bl b5, V.bl b6, V.bl b7, V.bl b8] ++ [.bl b9, .bl b10, .bl b11])) nr3))
  have nf4 := (sm3.trans sl3).free nr3
  have hS4 : (upd (upd J3 l3 (.lst [.bl b9, .bl b10, .bl b11])) r3 (.lst ([V.bl b0, V.bl b1, V.bl b2, V.bl b3, V.bl b4, V.bl b5, V.bl b6, V.bl b7, V.bl b8] ++ [.bl b9, .bl b10, .bl b11]))) r3 = some (.lst [V.bl b0, V.bl b1, V.bl b2, V.bl b3, V.bl b4, V.bl b5, V.bl b6, V.bl b7, V.bl b8, V.bl b9, V.bl b10, V.bl b11]) := upd_same
  generalize upd (upd J3 l3 (.lst [.bl b9, .bl b10, .bl b11])) r3 (.lst ([V.bl b0, V.bl b1, V.bl b2, V.bl b3, V.bl b4, V.bl b5, V.bl b6, V.bl b7, V.bl b8] ++ [.bl b9, .bl b10, .bl b11])) = J4 at sm4 hS4 ⊢
  have hx4 := hx.same sm4
  clear sl3 hl3
  refine ⟨_, rfl, _, rfl, a, C, fs, _, _, b12, rfl, hx4, hE, (fun u r => r), k12, _, rfl, a, C, fs, _, _, b13, rfl, hx4, hE, (fun u r => r), k13, (by show 2 ≤ sizeLine; decide), fun l4 nl4 => ?_⟩
  have sl4 := same_upd (H := J4) (o := .lst [.bl b12, .bl b13]) nl4
  have hl4 : (upd J4 l4 (.lst [.bl b12, .bl b13])) l4 = some (.lst [.bl b12, .bl b13]) := upd_same
  refine ⟨r3, l4, _, _, rfl, rfl, sl4 _ _ hS4, hl4, (by show 14 ≤ sizeLine; decide), fun r4 nr4 => ?_⟩
  have sm5 := sm4.trans (sl4.trans (same_upd (H := upd J4 l4 (.lst [.bl b12, .bl b13])) (o := .lst ([V.bl b0, V.bl b1, V.bl b2, V.bl b3, V.bl b4, V.bl b5, V.bl b6, V.bl b7, V.bl b8, V.bl b9, V.bl b10, V.bl b11] ++ [.bl b12, .bl b13])) nr4))
  have nf5 := (sm4.trans sl4).free nr4
  have hS5 : (upd (upd J4 l4 (.lst [.bl b12, .bl b13])) r4 (.lst ([V.bl b0, V.bl b1, V.bl b2, V.bl b3, V.bl b4, V.bl b5, V.bl b6, V.bl b7, V.bl b8, V.bl b9, V.bl b10, V.bl b11] ++ [.bl b12, .bl b13]))) r4 = some (.lst [V.bl b0, V.bl b1, V.bl b2, V.bl b3, V.bl b4, V.bl b5, V.bl b6, V.bl b7, V.bl b8, V.bl b9, V.bl b10, V.bl b11, V.bl b12, V.bl b13]) := upd_same
  generalize upd (upd J4 l4 (.lst [.bl b12, .bl b13])) r4 (.lst ([V.bl b0, V.bl b1, V.bl b2, V.bl b3, V.bl b4, V.bl b5, V.bl b6, V.bl b7, V.bl b8, V.bl b9, V.bl b10, V.bl b11] ++ [.bl b12, .bl b13])) = J5 at sm5 hS5 ⊢
  have hx5 := hx.same sm5
  clear sl4 hl4
  refine ⟨_, rfl, _, rfl, a, C, fs, _, _, b14, rfl, hx5, hE, (fun u r => r), k14, (by show 1 ≤ sizeLine; decide), fun l5 nl5 => ?_⟩
  have sl5 := same_upd (H := J5) (o := .lst [.bl b14]) nl5
  have hl5 : (upd J5 l5 (.lst [.bl b14])) l5 = some (.lst [.bl b14]) := upd_same
  refine ⟨r4, l5, _, _, rfl, rfl, sl5 _ _ hS5, hl5, (by show 15 ≤ sizeLine; decide), fun r5 nr5 => ?_⟩
  have sm6 := sm5.trans (sl5.trans (same_upd (H := upd J5 l5 (.lst [.bl b14])) (o := .lst ([V.bl b0, V.bl b1, V.bl b2, V.bl b3, V.bl b4, V.bl b5, V.bl b6, V.bl b7, V.bl b8, V.bl b9, V.bl b10, V.bl b11, V.bl b12, V.bl b13] ++ [.bl b14])) nr5))
  have nf6 := (sm5.trans sl5).free nr5
  have hS6 : (upd (upd J5 l5 (.lst [.bl b14])) r5 (.lst ([V.bl b0, V.bl b1, V.bl b2, V.bl b3, V.bl b4, V.bl b5, V.bl b6, V.bl b7, V.bl b8, V.bl b9, V.bl b10, V.bl b11, V.bl b12, V.bl b13] ++ [.bl b14]))) r5 = some (.lst [V.bl b0, V.bl b1, V.bl b2, V.bl b3, V.bl b4, V.bl b5, V.bl b6, V.bl b7, V.bl b8, V.bl b9, V.bl b10, V.bl b11, V.bl b12, V.bl b13, V.bl b14]) := upd_same
  generalize upd (upd J5 l5 (.lst [.bl b14])) r5 (.lst ([V.bl b0, V.bl b1, V.bl b2, V.bl b3, V.bl b4, V.bl b5, V.bl b6, V.bl b7, V.bl b8, V.bl b9, V.bl b10, V.bl b11, V.bl b12, V.bl b13] ++ [.bl b14])) = J6 at sm6 hS6 ⊢
  have hx6 := hx.same sm6
  clear sl5 hl5
  exact q _ _ sm6 nf6 hS6
end
end LT

namespace LT
open PySem PySem.Spec PyProof.Rows L2
/-- what the top says of an own class of errors without an __init__ -/
structure XF (K : PySem.W.Frag) (mg : Str → Option Value) (x : Str) (C : Addr) : Prop where
  g : mg x = some (.ref C)
  k : PySem.W.keepIn K (.ref C) = true
  q : PySem.W.excIn K C [.type "ValueError", .type "Exception", .type "BaseException", .type "object"] "ValueError.__new__" = true
  b : PySem.W.subIn K (.ref C) (.type "BaseException") = some true
  t : PySem.W.typeIn K (.ref C) = some (.type "type")
end LT

namespace LT
open PySem PySem.Spec PyProof.Rows L2
theorem sup_new {H : Hp} {a d C : Addr} {fld : Str} {y : V} (na : H a = none) (nd : H d = none) (ne : d ≠ a) : Same H (upd (upd H d (.xd [(fld, y)])) a (ExK (.ref C) (some d) a)) ∧ Exc (upd (upd H d (.xd [(fld, y)])) a (ExK (.ref C) (some d) a)) a C (some [(fld, y)]) := by
  have n2 : (upd H d (.xd [(fld, y)])) a = none := by rw [upd_ne (Ne.symm ne)]; exact na
  exact ⟨(same_upd nd).trans (same_upd n2), .inr ⟨d, _, rfl, upd_same, by rw [upd_ne ne, upd_same]⟩⟩
theorem exv_new {H : Hp} {a C : Addr} (na : H a = none) : Same H (upd H a (ExK (.ref C) none a)) ∧ Exc (upd H a (ExK (.ref C) none a)) a C none := ⟨same_upd na, .inl ⟨rfl, upd_same⟩⟩
/-- an exception of a class, with its field, if it has one -/
def Mk1 (H : Hp) (n : Int) (v : V) (x : Addr × Option Str) : Prop := ∃ a, v = .ref a ∧ Exc H a x.1 (x.2.map fun f => [(f, V.int n)])
theorem Mk1.same {H H' : Hp} {n : Int} {v : V} {x : Addr × Option Str} (h : Mk1 H n v x) (s : Same H H') : Mk1 H' n v x := by
  obtain ⟨a, e, h⟩ := h
  exact ⟨a, e, h.same s⟩
section
variable {P : Program} {w : World} {K : PySem.W.Frag} {mg : Str → Option Value} {base : Heap} {CInvalidSpans CInvalidNodes CInvalidBounds CInvalidText COverBudget CInvalidSize CInvalidEntry CInvalidNode CInvalidSpan CInvalidNumber CInvalidHeight CInvalidBudget CInvalidOperation CNothing CInvalidCommand : Addr}
def spMade (Ds : List (Addr × Option Str)) : Sp := fun vs H Q _ => ∃ n : Int, vs = [.int n] ∧ n.natAbs < 10 ^ 66 ∧ ∀ (H' : Hp) (p : Addr) (xs : List V), Same H H' → H p = none → H' p = some (.lst xs) → All2 (Mk1 H' n) xs Ds → Q (.ref p) H'
theorem ok_law_made {f : Addr} {fd : FuncData} (F : Fun K "_law_made" "_law_made" sLawMade f fd) (XInvalidSpans : SX P w K mg base "InvalidSpans" CInvalidSpans "item") (XInvalidNodes : SX P w K mg base "InvalidNodes" CInvalidNodes "item") (XInvalidBounds : SX P w K mg base "InvalidBounds" CInvalidBounds "item") (XInvalidText : SX P w K mg base "InvalidText" CInvalidText "part") (XOverBudget : SX P w K mg base "OverBudget" COverBudget "count") (XInvalidSize : XF K mg "InvalidSize" CInvalidSize) (XInvalidEntry : XF K mg "InvalidEntry" CInvalidEntry) (XInvalidNode : XF K mg "InvalidNode" CInvalidNode) (XInvalidSpan : XF K mg "InvalidSpan" CInvalidSpan) (XInvalidNumber : XF K mg "InvalidNumber" CInvalidNumber) (XInvalidHeight : XF K mg "InvalidHeight" CInvalidHeight) (XInvalidBudget : XF K mg "InvalidBudget" CInvalidBudget) (XInvalidOperation : XF K mg "InvalidOperation" CInvalidOperation) (XNothing : XF K mg "Nothing" CNothing) (XInvalidCommand : XF K mg "InvalidCommand" CInvalidCommand) : FnOk P w K mg base CX0 3 f fd ["number"] (spMade [(CInvalidSpans, some "item"), (CInvalidNodes, some "item"), (CInvalidBounds, some "item"), (CInvalidText, some "part"), (COverBudget, some "count"), (CInvalidSize, none), (CInvalidEntry, none), (CInvalidNode, none), (CInvalidSpan, none), (CInvalidNumber, none), (CInvalidHeight, none), (CInvalidBudget, none), (CInvalidOperation, none), (CNothing, none), (CInvalidCommand, none)]) := by
  refine F.ok scLawMade (fun vs H Q E h => ?_) (fun cdv A outer s H vs Q E hr h => ?_)
  · obtain ⟨_, rfl, _⟩ := h
    rfl
  obtain ⟨n, rfl, hn, q⟩ := h
  have hh : Held (.int n) := .inr ⟨n, rfl, hn⟩
  have s0 : Same H H := fun _ _ h => h
  refine' ⟨_, (pss_cons (ps_set (i := 1) scLawMade.nd rfl (Or.inl rfl) (pe_lst (pa_cons (pe_sup XInvalidSpans (hr.mono (by decide)) rfl (pa_cons (pv 0) pa_nil)) (pa_cons (pe_sup XInvalidNodes (hr.mono (by decide)) rfl (pa_cons (pv 0) pa_nil)) (pa_cons (pe_sup XInvalidBounds (hr.mono (by decide)) rfl (pa_cons (pv 0) pa_nil)) (pa_cons (pe_sup XInvalidText (hr.mono (by decide)) rfl (pa_cons (pv 0) pa_nil)) (pa_cons (pe_sup XOverBudget (hr.mono (by decide)) rfl (pa_cons (pv 0) pa_nil)) pa_nil)))))))
    (pss_cons (ps_set (i := 1) scLawMade.nd rfl (Or.inl rfl) (pe_op op_cat (pv 1) (pe_lst (pa_cons (pe_exV PySem.F.excBase_ValueError XInvalidSize.q XInvalidSize.g XInvalidSize.k rfl pe_str) (pa_cons (pe_exV PySem.F.excBase_ValueError XInvalidEntry.q XInvalidEntry.g XInvalidEntry.k rfl pe_str) (pa_cons (pe_exV PySem.F.excBase_ValueError XInvalidNode.q XInvalidNode.g XInvalidNode.k rfl pe_str) (pa_cons (pe_exV PySem.F.excBase_ValueError XInvalidSpan.q XInvalidSpan.g XInvalidSpan.k rfl pe_str) (pa_cons (pe_exV PySem.F.excBase_ValueError XInvalidNumber.q XInvalidNumber.g XInvalidNumber.k rfl pe_str) pa_nil))))))))
    (pss_cons (ps_set (i := 1) scLawMade.nd rfl (Or.inl rfl) (pe_op op_cat (pv 1) (pe_lst (pa_cons (pe_exV PySem.F.excBase_ValueError XInvalidHeight.q XInvalidHeight.g XInvalidHeight.k rfl pe_str) (pa_cons (pe_exV PySem.F.excBase_ValueError XInvalidBudget.q XInvalidBudget.g XInvalidBudget.k rfl pe_str) (pa_cons (pe_exV PySem.F.excBase_ValueError XInvalidOperation.q XInvalidOperation.g XInvalidOperation.k rfl pe_str) (pa_cons (pe_exV PySem.F.excBase_ValueError XNothing.q XNothing.g XNothing.k rfl pe_str) pa_nil)))))))
    (pss_one (ps_ret (pe_op op_cat (pv 1) (pe_lst (pa_cons (pe_exV PySem.F.excBase_ValueError XInvalidCommand.q XInvalidCommand.g XInvalidCommand.k rfl pe_str) pa_nil)))))))), ?_⟩
  refine ⟨_, rfl, _, rfl, hh, fun a0 d0 na0 nd0 ne0 => ?_⟩
  obtain ⟨t0, x0⟩ := sup_new (C := CInvalidSpans) (fld := "item") (y := .int n) na0 nd0 ne0
  generalize upd (upd H d0 (.xd [("item", V.int n)])) a0 (ExK (.ref CInvalidSpans) (some d0) a0) = G1 at t0 x0 ⊢
  have u1 := s0.trans t0
  refine ⟨_, rfl, _, rfl, hh, fun a1 d1 na1 nd1 ne1 => ?_⟩
  obtain ⟨t1, x1⟩ := sup_new (C := CInvalidNodes) (fld := "item") (y := .int n) na1 nd1 ne1
  generalize upd (upd G1 d1 (.xd [("item", V.int n)])) a1 (ExK (.ref CInvalidNodes) (some d1) a1) = G2 at t1 x1 ⊢
  have x0 := x0.same t1
  have u2 := u1.trans t1
  refine ⟨_, rfl, _, rfl, hh, fun a2 d2 na2 nd2 ne2 => ?_⟩
  obtain ⟨t2, x2⟩ := sup_new (C := CInvalidBounds) (fld := "item") (y := .int n) na2 nd2 ne2
  generalize upd (upd G2 d2 (.xd [("item", V.int n)])) a2 (ExK (.ref CInvalidBounds) (some d2) a2) = G3 at t2 x2 ⊢
  have x0 := x0.same t2
  have x1 := x1.same t2
  have u3 := u2.trans t2
  refine ⟨_, rfl, _, rfl, hh, fun a3 d3 na3 nd3 ne3 => ?_⟩
  obtain ⟨t3, x3⟩ := sup_new (C := CInvalidText) (fld := "part") (y := .int n) na3 nd3 ne3
  generalize upd (upd G3 d3 (.xd [("part", V.int n)])) a3 (ExK (.ref CInvalidText) (some d3) a3) = G4 at t3 x3 ⊢
  have x0 := x0.same t3
  have x1 := x1.same t3
  have x2 := x2.same t3
  have u4 := u3.trans t3
  refine ⟨_, rfl, _, rfl, hh, fun a4 d4 na4 nd4 ne4 => ?_⟩
  obtain ⟨t4, x4⟩ := sup_new (C := COverBudget) (fld := "count") (y := .int n) na4 nd4 ne4
  generalize upd (upd G4 d4 (.xd [("count", V.int n)])) a4 (ExK (.ref COverBudget) (some d4) a4) = G5 at t4 x4 ⊢
  have x0 := x0.same t4
  have x1 := x1.same t4
  have x2 := x2.same t4
  have x3 := x3.same t4
  have u5 := u4.trans t4
  refine ⟨(by show 5 ≤ sizeLine; decide), fun l0 nl0 => ?_⟩
  have sl0 := same_upd (H := G5) (o := .lst [.ref a0, .ref a1, .ref a2, .ref a3, .ref a4]) nl0
  have hl0 : (upd G5 l0 (.lst [.ref a0, .ref a1, .ref a2, .ref a3, .ref a4])) l0 = some (.lst [.ref a0, .ref a1, .ref a2, .ref a3, .ref a4]) := upd_same
  have hv0 : All2 (Mk1 (upd G5 l0 (.lst [.ref a0, .ref a1, .ref a2, .ref a3, .ref a4])) n) [.ref a0, .ref a1, .ref a2, .ref a3, .ref a4] ([(CInvalidSpans, some "item"), (CInvalidNodes, some "item"), (CInvalidBounds, some "item"), (CInvalidText, some "part"), (COverBudget, some "count")] : List (Addr × Option Str)) := (.cons ⟨a0, rfl, x0.same sl0⟩ (.cons ⟨a1, rfl, x1.same sl0⟩ (.cons ⟨a2, rfl, x2.same sl0⟩ (.cons ⟨a3, rfl, x3.same sl0⟩ (.cons ⟨a4, rfl, x4.same sl0⟩ .nil)))))
  have v0 := u5.trans sl0
  have nf0 := u5.free nl0
  generalize upd G5 l0 (.lst [.ref a0, .ref a1, .ref a2, .ref a3, .ref a4]) = J1 at v0 hl0 hv0 ⊢
  have ex1 : ∃ (X : List V), J1 l0 = some (.lst X) ∧ All2 (Mk1 J1 n) X ([(CInvalidSpans, some "item"), (CInvalidNodes, some "item"), (CInvalidBounds, some "item"), (CInvalidText, some "part"), (COverBudget, some "count")] : List (Addr × Option Str)) := ⟨_, hl0, hv0⟩
  clear hl0 hv0
  obtain ⟨X1, hS1, hx1⟩ := ex1
  refine ⟨_, rfl, fun a5 na5 => ?_⟩
  obtain ⟨t5, x5⟩ := exv_new (C := CInvalidSize) na5
  generalize upd J1 a5 (ExK (.ref CInvalidSize) none a5) = G6 at t5 x5 ⊢
  have u6 := v0.trans t5
  intro a6 na6
  obtain ⟨t6, x6⟩ := exv_new (C := CInvalidEntry) na6
  generalize upd G6 a6 (ExK (.ref CInvalidEntry) none a6) = G7 at t6 x6 ⊢
  have x5 := x5.same t6
  have u7 := u6.trans t6
  intro a7 na7
  obtain ⟨t7, x7⟩ := exv_new (C := CInvalidNode) na7
  generalize upd G7 a7 (ExK (.ref CInvalidNode) none a7) = G8 at t7 x7 ⊢
  have x5 := x5.same t7
  have x6 := x6.same t7
  have u8 := u7.trans t7
  intro a8 na8
  obtain ⟨t8, x8⟩ := exv_new (C := CInvalidSpan) na8
  generalize upd G8 a8 (ExK (.ref CInvalidSpan) none a8) = G9 at t8 x8 ⊢
  have x5 := x5.same t8
  have x6 := x6.same t8
  have x7 := x7.same t8
  have u9 := u8.trans t8
  intro a9 na9
  obtain ⟨t9, x9⟩ := exv_new (C := CInvalidNumber) na9
  generalize upd G9 a9 (ExK (.ref CInvalidNumber) none a9) = G10 at t9 x9 ⊢
  have x5 := x5.same t9
  have x6 := x6.same t9
  have x7 := x7.same t9
  have x8 := x8.same t9
  have u10 := u9.trans t9
  refine ⟨(by show 5 ≤ sizeLine; decide), fun l1 nl1 => ?_⟩
  have sl1 := same_upd (H := G10) (o := .lst [.ref a5, .ref a6, .ref a7, .ref a8, .ref a9]) nl1
  have hl1 : (upd G10 l1 (.lst [.ref a5, .ref a6, .ref a7, .ref a8, .ref a9])) l1 = some (.lst [.ref a5, .ref a6, .ref a7, .ref a8, .ref a9]) := upd_same
  have hv1 : All2 (Mk1 (upd G10 l1 (.lst [.ref a5, .ref a6, .ref a7, .ref a8, .ref a9])) n) [.ref a5, .ref a6, .ref a7, .ref a8, .ref a9] ([(CInvalidSize, none), (CInvalidEntry, none), (CInvalidNode, none), (CInvalidSpan, none), (CInvalidNumber, none)] : List (Addr × Option Str)) := (.cons ⟨a5, rfl, x5.same sl1⟩ (.cons ⟨a6, rfl, x6.same sl1⟩ (.cons ⟨a7, rfl, x7.same sl1⟩ (.cons ⟨a8, rfl, x8.same sl1⟩ (.cons ⟨a9, rfl, x9.same sl1⟩ .nil)))))
  have c1 := ((((t5.trans t6).trans t7).trans t8).trans t9).trans sl1
  refine ⟨l0, l1, _, _, rfl, rfl, c1 _ _ hS1, hl1, szle (by have := hx1.len; rw [this]; simp), fun r1 nr1 => ?_⟩
  have sr1 := same_upd (H := upd G10 l1 (.lst [.ref a5, .ref a6, .ref a7, .ref a8, .ref a9])) (o := .lst (X1 ++ [.ref a5, .ref a6, .ref a7, .ref a8, .ref a9])) nr1
  have v1 := (u10.trans sl1).trans sr1
  have nf1 := (u10.trans sl1).free nr1
  have hy1 := ((hx1.mono fun v x (m : Mk1 J1 n v x) => m.same c1).app hv1).mono fun v x (m : Mk1 (upd G10 l1 (.lst [.ref a5, .ref a6, .ref a7, .ref a8, .ref a9])) n v x) => m.same sr1
  have hz1 : (upd (upd G10 l1 (.lst [.ref a5, .ref a6, .ref a7, .ref a8, .ref a9])) r1 (.lst (X1 ++ [.ref a5, .ref a6, .ref a7, .ref a8, .ref a9]))) r1 = some (.lst (X1 ++ [.ref a5, .ref a6, .ref a7, .ref a8, .ref a9])) := upd_same
  generalize upd (upd G10 l1 (.lst [.ref a5, .ref a6, .ref a7, .ref a8, .ref a9])) r1 (.lst (X1 ++ [.ref a5, .ref a6, .ref a7, .ref a8, .ref a9])) = J2 at v1 hy1 hz1 ⊢
  have ex2 : ∃ (X : List V), J2 r1 = some (.lst X) ∧ All2 (Mk1 J2 n) X ([(CInvalidSpans, some "item"), (CInvalidNodes, some "item"), (CInvalidBounds, some "item"), (CInvalidText, some "part"), (COverBudget, some "count"), (CInvalidSize, none), (CInvalidEntry, none), (CInvalidNode, none), (CInvalidSpan, none), (CInvalidNumber, none)] : List (Addr × Option Str)) := ⟨_, hz1, hy1⟩
  clear hz1 hy1
  obtain ⟨X2, hS2, hx2⟩ := ex2
  refine ⟨_, rfl, fun a10 na10 => ?_⟩
  obtain ⟨t10, x10⟩ := exv_new (C := CInvalidHeight) na10
  generalize upd J2 a10 (ExK (.ref CInvalidHeight) none a10) = G11 at t10 x10 ⊢
  have u11 := v1.trans t10
  intro a11 na11
  obtain ⟨t11, x11⟩ := exv_new (C := CInvalidBudget) na11
  generalize upd G11 a11 (ExK (.ref CInvalidBudget) none a11) = G12 at t11 x11 ⊢
  have x10 := x10.same t11
  have u12 := u11.trans t11
  intro a12 na12
  obtain ⟨t12, x12⟩ := exv_new (C := CInvalidOperation) na12
  generalize upd G12 a12 (ExK (.ref CInvalidOperation) none a12) = G13 at t12 x12 ⊢
  have x10 := x10.same t12
  have x11 := x11.same t12
  have u13 := u12.trans t12
  intro a13 na13
  obtain ⟨t13, x13⟩ := exv_new (C := CNothing) na13
  generalize upd G13 a13 (ExK (.ref CNothing) none a13) = G14 at t13 x13 ⊢
  have x10 := x10.same t13
  have x11 := x11.same t13
  have x12 := x12.same t13
  have u14 := u13.trans t13
  refine ⟨(by show 4 ≤ sizeLine; decide), fun l2 nl2 => ?_⟩
  have sl2 := same_upd (H := G14) (o := .lst [.ref a10, .ref a11, .ref a12, .ref a13]) nl2
  have hl2 : (upd G14 l2 (.lst [.ref a10, .ref a11, .ref a12, .ref a13])) l2 = some (.lst [.ref a10, .ref a11, .ref a12, .ref a13]) := upd_same
  have hv2 : All2 (Mk1 (upd G14 l2 (.lst [.ref a10, .ref a11, .ref a12, .ref a13])) n) [.ref a10, .ref a11, .ref a12, .ref a13] ([(CInvalidHeight, none), (CInvalidBudget, none), (CInvalidOperation, none), (CNothing, none)] : List (Addr × Option Str)) := (.cons ⟨a10, rfl, x10.same sl2⟩ (.cons ⟨a11, rfl, x11.same sl2⟩ (.cons ⟨a12, rfl, x12.same sl2⟩ (.cons ⟨a13, rfl, x13.same sl2⟩ .nil))))
  have c2 := (((t10.trans t11).trans t12).trans t13).trans sl2
  refine ⟨r1, l2, _, _, rfl, rfl, c2 _ _ hS2, hl2, szle (by have := hx2.len; rw [this]; simp), fun r2 nr2 => ?_⟩
  have sr2 := same_upd (H := upd G14 l2 (.lst [.ref a10, .ref a11, .ref a12, .ref a13])) (o := .lst (X2 ++ [.ref a10, .ref a11, .ref a12, .ref a13])) nr2
  have v2 := (u14.trans sl2).trans sr2
  have nf2 := (u14.trans sl2).free nr2
  have hy2 := ((hx2.mono fun v x (m : Mk1 J2 n v x) => m.same c2).app hv2).mono fun v x (m : Mk1 (upd G14 l2 (.lst [.ref a10, .ref a11, .ref a12, .ref a13])) n v x) => m.same sr2
  have hz2 : (upd (upd G14 l2 (.lst [.ref a10, .ref a11, .ref a12, .ref a13])) r2 (.lst (X2 ++ [.ref a10, .ref a11, .ref a12, .ref a13]))) r2 = some (.lst (X2 ++ [.ref a10, .ref a11, .ref a12, .ref a13])) := upd_same
  generalize upd (upd G14 l2 (.lst [.ref a10, .ref a11, .ref a12, .ref a13])) r2 (.lst (X2 ++ [.ref a10, .ref a11, .ref a12, .ref a13])) = J3 at v2 hy2 hz2 ⊢
  have ex3 : ∃ (X : List V), J3 r2 = some (.lst X) ∧ All2 (Mk1 J3 n) X ([(CInvalidSpans, some "item"), (CInvalidNodes, some "item"), (CInvalidBounds, some "item"), (CInvalidText, some "part"), (COverBudget, some "count"), (CInvalidSize, none), (CInvalidEntry, none), (CInvalidNode, none), (CInvalidSpan, none), (CInvalidNumber, none), (CInvalidHeight, none), (CInvalidBudget, none), (CInvalidOperation, none), (CNothing, none)] : List (Addr × Option Str)) := ⟨_, hz2, hy2⟩
  clear hz2 hy2
  obtain ⟨X3, hS3, hx3⟩ := ex3
  refine ⟨_, rfl, fun a14 na14 => ?_⟩
  obtain ⟨t14, x14⟩ := exv_new (C := CInvalidCommand) na14
  generalize upd J3 a14 (ExK (.ref CInvalidCommand) none a14) = G15 at t14 x14 ⊢
  have u15 := v2.trans t14
  refine ⟨(by show 1 ≤ sizeLine; decide), fun l3 nl3 => ?_⟩
  have sl3 := same_upd (H := G15) (o := .lst [.ref a14]) nl3
  have hl3 : (upd G15 l3 (.lst [.ref a14])) l3 = some (.lst [.ref a14]) := upd_same
  have hv3 : All2 (Mk1 (upd G15 l3 (.lst [.ref a14])) n) [.ref a14] ([(CInvalidCommand, none)] : List (Addr × Option Str)) := (.cons ⟨a14, rfl, x14.same sl3⟩ .nil)
  have c3 := t14.trans sl3
  refine ⟨r2, l3, _, _, rfl, rfl, c3 _ _ hS3, hl3, szle (by have := hx3.len; rw [this]; simp), fun r3 nr3 => ?_⟩
  have sr3 := same_upd (H := upd G15 l3 (.lst [.ref a14])) (o := .lst (X3 ++ [.ref a14])) nr3
  have v3 := (u15.trans sl3).trans sr3
  have nf3 := (u15.trans sl3).free nr3
  have hy3 := ((hx3.mono fun v x (m : Mk1 J3 n v x) => m.same c3).app hv3).mono fun v x (m : Mk1 (upd G15 l3 (.lst [.ref a14])) n v x) => m.same sr3
  have hz3 : (upd (upd G15 l3 (.lst [.ref a14])) r3 (.lst (X3 ++ [.ref a14]))) r3 = some (.lst (X3 ++ [.ref a14])) := upd_same
  generalize upd (upd G15 l3 (.lst [.ref a14])) r3 (.lst (X3 ++ [.ref a14])) = J4 at v3 hy3 hz3 ⊢
  have ex4 : ∃ (X : List V), J4 r3 = some (.lst X) ∧ All2 (Mk1 J4 n) X ([(CInvalidSpans, some "item"), (CInvalidNodes, some "item"), (CInvalidBounds, some "item"), (CInvalidText, some "part"), (COverBudget, some "count"), (CInvalidSize, none), (CInvalidEntry, none), (CInvalidNode, none), (CInvalidSpan, none), (CInvalidNumber, none), (CInvalidHeight, none), (CInvalidBudget, none), (CInvalidOperation, none), (CNothing, none), (CInvalidCommand, none)] : List (Addr × Option Str)) := ⟨_, hz3, hy3⟩
  clear hz3 hy3
  obtain ⟨X4, hS4, hx4⟩ := ex4
  exact q _ _ _ v3 nf3 hS4 hx4
end
end LT

namespace LT
open PySem PySem.Spec PyProof.Rows L2
theorem script_at {ns : List Int} {lo hi : Option Int} {i : Nat} {x : V} (h : (cutV (ns.map V.int) lo hi ++ [.int 0])[i]? = some x) : ∃ c : Int, x = .int c := by
  have m := List.mem_of_getElem? h
  rcases List.mem_append.mp m with m | m
  · unfold cutV at m
    have m2 := List.mem_of_mem_drop (List.mem_of_mem_take m)
    obtain ⟨c, _, e⟩ := List.mem_map.mp m2
    exact ⟨c, e.symm⟩
  · exact ⟨0, List.mem_singleton.mp m⟩
theorem sqSame {K : PySem.W.Frag} {H H' : Hp} {a : Addr} {xs : List V} (h : SqL K H a xs) (e : Same H H') : SqL K H' a xs :=
  h.elim (fun h => .inl (h.elim (fun h => .inl (e _ _ h)) fun ⟨o, h⟩ => .inr ⟨o, e _ _ h⟩)) fun h => .inr h
def spLaw (K : PySem.W.Frag) : Sp := fun vs H Q _ => ∃ (a : Addr) (ns : List Int), vs = [.ref a] ∧ SqL K H a (ns.map V.int) ∧ ns.length ≤ 63 ∧ ∀ H', Q (.bl true) H'
end LT

namespace LT
open PySem PySem.Spec PyProof.Rows L2
section
variable {P : Program} {w : World} {K : PySem.W.Frag} {mg : Str → Option Value} {base : Heap}
/-! ### walking an enumerate -/
theorem for_enum {a : Addr} {xs : List V} {g : TG} {tb : TS} {D : Ends} {σ : L2.St} {H : Hp} (Pv : Nat → L2.St → Hp → Prop) (h0 : Pv 0 σ H) (hl : ∀ i σ H, i ≤ xs.length → Pv i σ H → SqL K H a xs)
    (hs : ∀ i x σ H T, xs[i]? = some x → Pv i σ H → H T = none → g (.ref T) σ (upd H T (.tup [.int (i : Nat), x])) fun σ2 H2 => tb { D with nx := Pv (i + 1), ct := Pv (i + 1), bk := D.nx } σ2 H2) (hd : ∀ σ H, Pv xs.length σ H → D.nx σ H) :
    ∃ W : Nat → Nat → L2.St → Hp → Prop, (∃ m, W 0 m σ H) ∧ ∀ i m σ H, W i m σ H →
      ((Ite K a).stop i H ∧ D.nx σ H) ∨ ((Ite K a).go i H ∧ ∃ N : L2.St → Hp → Prop, (∀ σ' H', N σ' H' → ∃ m', m' < m ∧ W (i + 1) m' σ' H') ∧ ∀ x H', (Ite K a).yld i H x H' → g x σ H' fun σ2 H2 => tb { D with nx := N, ct := N, bk := D.nx } σ2 H2) := by
  refine ⟨fun i m σ H => m = xs.length - i ∧ i ≤ xs.length ∧ Pv i σ H, ⟨xs.length, by simp, Nat.zero_le _, h0⟩, ?_⟩
  rintro i m σ H ⟨rfl, hi, p⟩
  have q := hl i σ H hi p
  by_cases hlt : i < xs.length
  · refine .inr ⟨⟨xs, xs[i], q, by simp [hlt]⟩, Pv (i + 1), fun σ' H' p' => ⟨xs.length - (i + 1), by omega, rfl, hlt, p'⟩, fun x H' y => ?_⟩
    obtain ⟨T, x1, rfl, nT, rfl, f⟩ := y
    exact hs i x1 σ H T (f xs q) p nT
  · have e : i = xs.length := by omega
    subst e
    exact .inl ⟨⟨xs, q, Nat.le_refl _⟩, hd σ H p⟩
end
end LT

namespace LT
open PySem PySem.Spec PyProof.Rows L2
theorem bls_dp {K : PySem.W.Frag} {H : Hp} : ∀ ns : List Bool, DpAll K H (ns.map V.bl) (ns.map PyData.bool)
  | [] => .nil
  | n :: ns => .cons (.bl n) (bls_dp ns)
theorem bls_sh (ns : List Bool) : SeqAt.shaped (.list (ns.map PyData.bool)) = true := by
  have h1 : ∀ l : List Bool, PyData.canLayAll0 (l.map PyData.bool) = true := fun l => by
    induction l with
    | nil => rfl
    | cons a l ih => simp [PyData.canLayAll0, PyData.canLay0, ih]
  have h2 : ∀ l : List Bool, PyData.depthAll (l.map PyData.bool) ≤ 1 := fun l => by
    induction l with
    | nil => simp [PyData.depthAll]
    | cons a l ih => simp [PyData.depthAll, PyData.depth]; omega
  show (PyData.canLay0 _ && decide (PyData.depth _ ≤ 64)) = true
  have := h2 ns
  simp [PyData.canLay0, h1, PyData.depth]
  omega
theorem ints_dp {K : PySem.W.Frag} {H : Hp} : ∀ ns : List Int, DpAll K H (ns.map V.int) (ns.map PyData.int)
  | [] => .nil
  | n :: ns => .cons (.int n) (ints_dp ns)
section
variable {X : Cx}
theorem op_catQ : OpR X (binaryOp .Add) (fun x y H Q => ∃ l b xs zs, x = .ref l ∧ y = .ref b ∧ SqL X.K H l xs ∧ SqL X.K H b zs ∧ xs.length + zs.length ≤ sizeLine ∧ ∀ p, H p = none → Q (.ref p) (upd H p (.lst (xs ++ zs)))) := by
  intro pins s σ H x y v u Q I rx ry h
  obtain ⟨l, b, xs, zs, rfl, rfl, hH, hB, hz, q⟩ := h
  cases rx
  cases ry
  obtain ⟨its, r, ⟨⟨cls, dd, data, sl⟩, n, ho, hc, hn, hd⟩, hl⟩ := I.list hH
  obtain ⟨its2, r2, ⟨⟨cls2, dd2, data2, sl2⟩, n2, ho2, hc2, hn2, hd2⟩, hl2⟩ := I.list hB
  dsimp only at hc hn hd hc2 hn2 hd2
  subst hc hn hd hc2 hn2 hd2
  have e1 := r.length
  have e2 := r2.length
  refine PySem.concat_meets ⟨_, ho, rfl⟩ ⟨_, ho2, rfl⟩ noFill_list_add seq_list_add PySem.F.slot_list_add PySem.F.entry_list_add (PySem.F.args_list_add_2 _ _) (list_addW l b its.toArray its2.toArray n n2 none none sl sl2 (by rw [List.size_toArray, List.size_toArray]; omega)) ⟨ho, ho2, ?_⟩
  have ea : its.toArray ++ its2.toArray = (its ++ its2).toArray := by simp
  rw [ea]
  exact ⟨.ref _, _, I.lnew (t' := s.toks) (r.append r2) (by rw [List.length_append]; omega), rfl, q _ I.fresh⟩
end
section
variable {P : Program} {w : World} {K : PySem.W.Frag} {mg : Str → Option Value} {base : Heap} {CInvalidSpans CInvalidNodes CInvalidBounds CInvalidText COverBudget CInvalidSize CInvalidEntry CInvalidNode CInvalidSpan CInvalidNumber CInvalidHeight CInvalidBudget CInvalidOperation CNothing CInvalidCommand CLogError : Addr}
/-- what the top says of a class: what an instance is -/
structure CV (K : PySem.W.Frag) (Cs : List Addr) (CL C : Addr) (bs : List Bool) : Prop where
  c : ExcC K C
  kit : Kit K C Cs bs
  l : PySem.W.kitOne K (.ref C) (.ref CL) = some true
  v : PySem.W.kitOne K (.ref C) (.type "ValueError") = some true
def Xfld (K : PySem.W.Frag) (C : Addr) (f : Str) : Prop := XfC K C ∧ PySem.W.findIn K (.ref C) f = some none
def row (k : Nat) : List Bool := (List.range 15).map fun j => decide (j = k)
theorem ok_law {f g0 g1 g2 g3 : Addr} {fd d0 d1 d2 d3 : FuncData} (F : Fun K "law" "law" sLaw f fd)
    (GLawBag : FnOk P w K mg base CX0 1 g0 d0 ["cell"] spBag) (ALawBag : At K mg "_law_bag" g0 d0 ["cell"])
    (GLawPick : FnOk P w K mg base CX0 1 g1 d1 ["bag", "many"] spPick) (ALawPick : At K mg "_law_pick" g1 d1 ["bag", "many"])
    (GLawMade : FnOk P w K mg base CX0 3 g2 d2 ["number"] (spMade [(CInvalidSpans, some "item"), (CInvalidNodes, some "item"), (CInvalidBounds, some "item"), (CInvalidText, some "part"), (COverBudget, some "count"), (CInvalidSize, none), (CInvalidEntry, none), (CInvalidNode, none), (CInvalidSpan, none), (CInvalidNumber, none), (CInvalidHeight, none), (CInvalidBudget, none), (CInvalidOperation, none), (CNothing, none), (CInvalidCommand, none)])) (ALawMade : At K mg "_law_made" g2 d2 ["number"])
    (GLawClasses : FnOk P w K mg base CX0 1 g3 d3 ["one"] (spClasses K [CInvalidSpans, CInvalidNodes, CInvalidBounds, CInvalidText, COverBudget, CInvalidSize, CInvalidEntry, CInvalidNode, CInvalidSpan, CInvalidNumber, CInvalidHeight, CInvalidBudget, CInvalidOperation, CNothing, CInvalidCommand])) (ALawClasses : At K mg "_law_classes" g3 d3 ["one"])
    (XLogError : XF K mg "LogError" CLogError) (XInvalidSpans : SX P w K mg base "InvalidSpans" CInvalidSpans "item") (XInvalidNodes : SX P w K mg base "InvalidNodes" CInvalidNodes "item") (XInvalidBounds : SX P w K mg base "InvalidBounds" CInvalidBounds "item") (XInvalidText : SX P w K mg base "InvalidText" CInvalidText "part")
    (all : ∀ (k : Nat) (x : Addr × Option Str), ([(CInvalidSpans, some "item"), (CInvalidNodes, some "item"), (CInvalidBounds, some "item"), (CInvalidText, some "part"), (COverBudget, some "count"), (CInvalidSize, none), (CInvalidEntry, none), (CInvalidNode, none), (CInvalidSpan, none), (CInvalidNumber, none), (CInvalidHeight, none), (CInvalidBudget, none), (CInvalidOperation, none), (CNothing, none), (CInvalidCommand, none)] : List (Addr × Option Str))[k]? = some x →
      CV K [CInvalidSpans, CInvalidNodes, CInvalidBounds, CInvalidText, COverBudget, CInvalidSize, CInvalidEntry, CInvalidNode, CInvalidSpan, CInvalidNumber, CInvalidHeight, CInvalidBudget, CInvalidOperation, CNothing, CInvalidCommand] CLogError x.1 (row k) ∧ ∀ f, x.2 = some f → Xfld K x.1 f)
    (logE : ExcC K CLogError) (logK : Kit K CLogError [CInvalidSpans, CInvalidNodes, CInvalidBounds, CInvalidText, COverBudget, CInvalidSize, CInvalidEntry, CInvalidNode, CInvalidSpan, CInvalidNumber, CInvalidHeight, CInvalidBudget, CInvalidOperation, CNothing, CInvalidCommand] (List.replicate 15 false)) (logV : PySem.W.kitOne K (.ref CLogError) (.type "ValueError") = some true)
    (z_range : mg "range" = none) (z_enumerate : mg "enumerate" = none) (z_isinstance : mg "isinstance" = none) (z_len : mg "len" = none) (z_ValueError : mg "ValueError" = none) : FnOk P w K mg base CX0 4 f fd ["script"] (spLaw K) := by
  refine F.ok scLaw (fun vs H Q E h => ?_) (fun cdv A outer s H vs Q E hr h => ?_)
  · obtain ⟨_, _, rfl, _⟩ := h
    rfl
  obtain ⟨a, ns, rfl, hs, hn, q⟩ := h
  refine' ⟨_, (pss_cons (ps_set (i := 1) scLaw.nd rfl (Or.inl rfl) (pe_call GLawBag (hr.mono (by decide)) rfl ALawBag.m ALawBag.kp ALawBag.b .nil pass0 (pa_cons (pe_ix ix_list (pe_op op_catQ (pv 0) (pe_lst (pa_cons pe_int pa_nil))) pe_int (fun _ _ => rfl)) pa_nil)))
    (pss_cons (ps_for PassesOwn.never rfl (pi_range1 (by rfl) z_range (pa_cons pe_int pa_nil)) (pg_name (i := 2) scLaw.nd rfl (Or.inl rfl))
    (pss_cons (ps_set (i := 3) scLaw.nd rfl (Or.inl rfl) (pe_call GLawPick (hr.mono (by decide)) rfl ALawPick.m ALawPick.kp ALawPick.b .nil pass0 (pa_cons (pv 1) (pa_cons (pe_ix ix_list (pe_lst (pa_cons pe_int (pa_cons (pe_op op_pow pe_int pe_int) pa_nil))) (pe_op op_modN (pv 2) pe_int) (fun _ _ => rfl)) pa_nil))))
    (pss_cons (ps_set (i := 4) scLaw.nd rfl (Or.inl rfl) (pe_call GLawMade (hr.mono (by decide)) rfl ALawMade.m ALawMade.kp ALawMade.b .nil pass0 (pa_cons (pv 3) pa_nil)))
    (pss_cons (ps_for PassesOwn.never rfl (pi_enum (by rfl) z_enumerate (pa_cons (pv 4) pa_nil)) (pg_tup (by rfl) (pgs_cons (pg_name (i := 5) scLaw.nd rfl (Or.inr rfl)) (pgs_cons (pg_name (i := 6) scLaw.nd rfl (Or.inl rfl)) pgs_nil)))
    (pss_cons (ps_if (PW.pt (pw_or (pt_not (pt_val (pe_callB call_isX (by rfl) z_isinstance (by decide +kernel) (pa_cons (pv 6) (pa_cons (pe_glob (v := .ref CLogError) rfl XLogError.g rfl) pa_nil))))) (pw_or1 (pt_not (pt_val (pe_callB call_isX (by rfl) z_isinstance (by decide +kernel) (pa_cons (pv 6) (pa_cons (pe_bltn (v := .ty "ValueError") (u := .type "ValueError") (by rfl) z_ValueError (by decide +kernel) rfl) pa_nil))))))))
    (pss_one (ps_ret pe_bl))
    pss_nil)
    (pss_one (ps_if (pt_cmpR (op_neD hr.units) (pe_call GLawClasses (hr.mono (by decide)) rfl ALawClasses.m ALawClasses.kp ALawClasses.b .nil pass0 (pa_cons (pv 6) pa_nil)) (pe_lc (own := [("j", 9)]) rfl scLaw.nd (pi_range1 (by rfl) z_range (pa_cons (pe_callB call_len_seq (by rfl) z_len PySem.boot_len (pa_cons (pv 4) pa_nil)) pa_nil)) (blkOk_by (N := ["script", "bag", "turn", "number", "made", "k", "one", "base", "some", "j"]) (sc := defScope sLaw) (by decide +kernel)) (fun _ _ _ _ _ => (pg_name (i := 9) scLaw.nd rfl (Or.inl rfl))) (fun _ _ _ _ _ => pts_nil) (fun _ _ _ _ _ => (pe_cmpR op_eq (pv 9) (pv 5) (nomark _)))) (nomark _))
    (pss_one (ps_ret pe_bl))
    pss_nil))))
    (pss_one (ps_if (pt_cmpR (op_neD hr.units) (pe_lst (pa_cons (pe_fldX (pe_ix ix_list (pv 4) pe_int (fun _ _ => rfl))) (pa_cons (pe_fldX (pe_ix ix_list (pv 4) pe_int (fun _ _ => rfl))) (pa_cons (pe_fldX (pe_ix ix_list (pv 4) pe_int (fun _ _ => rfl))) (pa_cons (pe_fldX (pe_ix ix_list (pv 4) pe_int (fun _ _ => rfl))) (pa_cons (pe_fldX (pe_ix ix_list (pv 4) pe_int (fun _ _ => rfl))) pa_nil)))))) (pe_op op_rep (pe_lst (pa_cons (pv 3) pa_nil)) pe_int) (nomark _))
    (pss_one (ps_ret pe_bl))
    pss_nil))))))
    (pss_cons (ps_set (i := 7) scLaw.nd rfl (Or.inl rfl) (pe_exV PySem.F.excBase_ValueError XLogError.q XLogError.g XLogError.k rfl pe_str))
    (pss_cons (ps_set (i := 8) scLaw.nd rfl (Or.inl rfl) (pe_lst (pa_cons (pe_fldX (pe_sup XInvalidSpans (hr.mono (by decide)) rfl (pa_cons pe_non pa_nil))) (pa_cons (pe_fldX (pe_sup XInvalidNodes (hr.mono (by decide)) rfl (pa_cons pe_non pa_nil))) (pa_cons (pe_fldX (pe_sup XInvalidBounds (hr.mono (by decide)) rfl (pa_cons pe_non pa_nil))) (pa_cons (pe_fldX (pe_sup XInvalidText (hr.mono (by decide)) rfl (pa_cons pe_non pa_nil))) pa_nil))))))
    (pss_one (ps_ret (pe_and (pe_cmpR (op_eqD hr.units) (pv 8) (pe_op op_rep (pe_lst (pa_cons pe_non pa_nil)) pe_int) (nomark _)) (pe_and (pe_cmpR (op_notInD (units1 hr)) pe_bl (pe_call GLawClasses (hr.mono (by decide)) rfl ALawClasses.m ALawClasses.kp ALawClasses.b .nil pass0 (pa_cons (pv 7) pa_nil)) (by rfl)) (pe_one (pe_callB call_isX (by rfl) z_isinstance (by decide +kernel) (pa_cons (pv 7) (pa_cons (pe_bltn (v := .ty "ValueError") (u := .type "ValueError") (by rfl) z_ValueError (by decide +kernel) rfl) pa_nil)))))))))))), ?_⟩
  have one1 : 1 ≤ sizeLine := by decide
  refine ⟨_, rfl, one1, fun l0 nl0 => ⟨a, l0, _, _, rfl, rfl, sqSame hs (same_upd nl0), SqL.of upd_same, szle (by rw [List.length_map]; simp; omega), fun r0 nr0 => ?_⟩⟩
  have s0 := (same_upd (o := .lst [V.int 0]) nl0).trans (same_upd (o := .lst (ns.map V.int ++ [V.int 0])) nr0)
  have hr0 : (upd (upd H l0 (.lst [V.int 0])) r0 (.lst (ns.map V.int ++ [V.int 0]))) r0 = some (.lst (ns.map V.int ++ [V.int 0])) := upd_same
  generalize upd (upd H l0 (.lst [V.int 0])) r0 (.lst (ns.map V.int ++ [V.int 0])) = H0 at s0 hr0 ⊢
  obtain ⟨c, hc⟩ : ∃ c : Int, atI (ns.map V.int ++ [V.int 0]) 0 = some (.int c) := by
    cases ns with
    | nil => exact ⟨0, rfl⟩
    | cons n t => exact ⟨n, atI_nat (j := 0) rfl⟩
  refine ⟨r0, _, _, _, rfl, rfl, SqL.of hr0, hc, ?_⟩
  refine ⟨c, rfl, fun H1 b s1 nb hb => ?_⟩
  refine ⟨_, rfl, by decide, by decide, for_range (lo := 0) (n := 4) (fun i σ H' => ∃ v2 v3 v4 v5 v6 : Option V, σ = [some (.ref a), some (.ref b), v2, v3, v4, v5, v6, none, none, none] ∧ BagAt H' b) ⟨none, none, none, none, none, rfl, hb⟩ ?_ ?_⟩
  · rintro i σ G hi ⟨v2, v3, v4, v5, v6, rfl, gb⟩
    refine ⟨_, rfl, _, _, rfl, rfl, ⟨by decide, by decide, by decide⟩, (by show 2 ≤ sizeLine; decide), fun t kt => ?_⟩
    have s3 := same_upd (o := .lst [.int 9, .int (10 ^ Int.toNat 60)]) kt
    have ht : (upd G t (.lst [.int 9, .int (10 ^ Int.toNat 60)])) t = some (.lst [.int 9, .int (10 ^ Int.toNat 60)]) := upd_same
    have gb1 := gb.same s3
    generalize upd G t (.lst [.int 9, .int (10 ^ Int.toNat 60)]) = G1 at s3 ht gb1 ⊢
    obtain ⟨m, hm, m0, m1⟩ : ∃ m : Int, atI [V.int 9, V.int (10 ^ Int.toNat 60)] (((0 : Int) + (i : Nat)).fmod 2) = some (.int m) ∧ 0 < m ∧ m.natAbs ≤ 10 ^ 60 := by
      have : i = 0 ∨ i = 1 ∨ i = 2 ∨ i = 3 := by omega
      rcases this with rfl | rfl | rfl | rfl
      · exact ⟨9, by rfl, by decide, by decide⟩
      · exact ⟨10 ^ Int.toNat 60, by rfl, by decide, by decide⟩
      · exact ⟨9, by rfl, by decide, by decide⟩
      · exact ⟨10 ^ Int.toNat 60, by rfl, by decide, by decide⟩
    refine ⟨_, rfl, _, _, rfl, rfl, (by show (2 : Int) ≠ 0; decide), t, _, _, _, rfl, rfl, SqL.of ht, hm, ?_⟩
    refine ⟨b, m, rfl, m0, Nat.lt_of_le_of_lt m1 (by decide), gb1, fun n G2 n0 n1 k2 gb2 => ?_⟩
    have hn66 : n.natAbs < 10 ^ 66 := Nat.lt_of_le_of_lt (show n.natAbs ≤ 10 ^ 60 by omega) (by decide)
    refine ⟨_, rfl, n, rfl, hn66, fun G3 p xs s3 np hp hx => ?_⟩
    have gb3 := gb2.same s3
    have lx : xs.length = 15 := hx.len
    refine ⟨_, rfl, p, xs, rfl, SqL.of hp, for_enum (K := K) (a := p) (xs := xs) (fun k σ H' => ∃ v5 v6 : Option V, σ = [some (.ref a), some (.ref b), some (.int (0 + (i : Nat))), some (.int n), some (.ref p), v5, v6, none, none, none] ∧ Same G3 H')
      ⟨v5, v6, rfl, Same.refl _⟩ (fun k σ H' _ ⟨_, _, _, s⟩ => SqL.of (s _ _ hp)) ?_ ?_⟩
    · rintro k y σ G4 T hk ⟨v5', v6', rfl, s4⟩ nT
      have k15 : k < 15 := by rw [← lx]; exact (List.getElem?_eq_some_iff.mp hk).1
      obtain ⟨⟨C, fo⟩, hCk, e, rfl, hxe⟩ := hx.nth hk
      obtain ⟨cv, _⟩ := all k _ hCk
      have sT := s4.trans (same_upd (o := .tup [.int (k : Nat), .ref e]) nT)
      refine ⟨T, _, rfl, SqT.of upd_same, rfl, _, _, rfl, _, _, rfl, rfl, ?_⟩
      generalize upd G4 T (.tup [.int (k : Nat), .ref e]) = G5 at sT ⊢
      have xe := hxe.same sT
      refine ⟨_, rfl, e, C, _, _, _, true, rfl, xe, cv.c, (fun u r => r), cv.l, true, rfl, ?_⟩
      refine ⟨_, rfl, e, C, _, _, _, true, rfl, xe, cv.c, (fun u r => r), cv.v, true, rfl, ?_⟩
      refine ⟨_, rfl, e, C, _, row k, rfl, xe, cv.c, cv.kit, fun G6 p1 s6 np1 hp1 => ?_⟩
      have hp6 := s6 _ _ (sT _ _ hp)
      refine ⟨_, rfl, p, xs, rfl, .inl (SqL.of hp6), 15, (by rw [lx]; rfl), by decide, by decide, fun D nD => ?_⟩
      refine lc_range (lo := 0) (n := 15) (fun j H' => Same G6 H' ∧ H' D = some (.lst (((List.range j).map fun j => decide (j = k)).map V.bl))) ⟨same_upd nD, upd_same⟩ ?_ ?_
      · rintro j G7 hj ⟨s7, hD⟩
        refine ⟨rfl, ?_⟩
        refine ⟨_, rfl, _, rfl, rfl, ?_⟩
        have ed : decide (V.int (0 + (j : Nat)) = V.int ((k : Nat) : Int)) = decide (j = k) := by
          by_cases h : j = k
          · subst h
            rw [decide_eq_true rfl, decide_eq_true (by rw [Int.zero_add])]
          · rw [decide_eq_false h, decide_eq_false (fun z => h (by have := V.int.inj z; omega))]
        rw [ed]
        refine ⟨_, hD, szlt (by rw [List.length_map, List.length_map, List.length_range]; omega), fun u o z => by rw [upd_ne (ne_of_none z nD)]; exact s7 _ _ z, ?_⟩
        rw [List.range_succ, List.map_append, List.map_append]
        exact upd_same
      · rintro G7 ⟨s7, hD⟩
        refine ⟨.list ((row k).map PyData.bool), .list ((row k).map PyData.bool), .lst (SqL.of (s7 _ _ hp1)) (bls_dp _), .lst (SqL.of hD) (bls_dp _), bls_sh _, bls_sh _, ?_⟩
        rw [SeqAt.eqv_refl _ (SeqAt.canLay_of_shaped (bls_sh _))]
        exact ⟨false, rfl, _, _, rfl, sT.trans (s6.trans s7)⟩
    · rintro σ G4 ⟨v5', v6', rfl, s4⟩
      have hp4 := s4 _ _ hp
      obtain ⟨u0, a0, e0, rfl, q0⟩ := hx.nth2 (i := 0) (x := ((CInvalidSpans, some "item") : Addr × Option Str)) rfl
      have x0 := q0.same s4
      obtain ⟨xf0, nf0⟩ := (all 0 (CInvalidSpans, some "item") rfl).2 "item" rfl
      obtain ⟨u1, a1, e1, rfl, q1⟩ := hx.nth2 (i := 1) (x := ((CInvalidNodes, some "item") : Addr × Option Str)) rfl
      have x1 := q1.same s4
      obtain ⟨xf1, nf1⟩ := (all 1 (CInvalidNodes, some "item") rfl).2 "item" rfl
      obtain ⟨u2, a2, e2, rfl, m2⟩ := hx.nth2 (i := 2) (x := ((CInvalidBounds, some "item") : Addr × Option Str)) rfl
      have x2 := m2.same s4
      obtain ⟨xf2, nf2⟩ := (all 2 (CInvalidBounds, some "item") rfl).2 "item" rfl
      obtain ⟨u3, a3, e3, rfl, m3⟩ := hx.nth2 (i := 3) (x := ((CInvalidText, some "part") : Addr × Option Str)) rfl
      have x3 := m3.same s4
      obtain ⟨xf3, nf3⟩ := (all 3 (CInvalidText, some "part") rfl).2 "part" rfl
      obtain ⟨u4, a4, e4, rfl, m4⟩ := hx.nth2 (i := 4) (x := ((COverBudget, some "count") : Addr × Option Str)) rfl
      have x4 := m4.same s4
      obtain ⟨xf4, nf4⟩ := (all 4 (COverBudget, some "count") rfl).2 "count" rfl
      refine ⟨_, rfl, p, _, _, _, rfl, rfl, SqL.of hp4, atI_nat (j := 0) a0, e0, CInvalidSpans, _, _, rfl, x0, xf0, nf0, rfl, ?_⟩
      refine ⟨_, rfl, p, _, _, _, rfl, rfl, SqL.of hp4, atI_nat (j := 1) a1, e1, CInvalidNodes, _, _, rfl, x1, xf1, nf1, rfl, ?_⟩
      refine ⟨_, rfl, p, _, _, _, rfl, rfl, SqL.of hp4, atI_nat (j := 2) a2, e2, CInvalidBounds, _, _, rfl, x2, xf2, nf2, rfl, ?_⟩
      refine ⟨_, rfl, p, _, _, _, rfl, rfl, SqL.of hp4, atI_nat (j := 3) a3, e3, CInvalidText, _, _, rfl, x3, xf3, nf3, rfl, ?_⟩
      refine ⟨_, rfl, p, _, _, _, rfl, rfl, SqL.of hp4, atI_nat (j := 4) a4, e4, COverBudget, _, _, rfl, x4, xf4, nf4, rfl, ?_⟩
      refine ⟨(by show 5 ≤ sizeLine; decide), fun l5 nl5 => ⟨_, rfl, one1, fun l6 nl6 => ⟨l6, 5, _, rfl, rfl, upd_same, by decide, by decide, (by show 1 * 5 ≤ sizeLine; decide), fun l7 nl7 => ?_⟩⟩⟩
      have t5 := same_upd (o := .lst [.int n, .int n, .int n, .int n, .int n]) nl5
      have t6 := same_upd (o := .lst [V.int n]) nl6
      have t7 := same_upd (o := .lst (List.replicate (Int.toNat 5) [V.int n]).flatten) nl7
      have sh5 : SeqAt.shaped (.list ((List.replicate 5 n).map PyData.int)) = true := by
        show (PyData.canLay0 _ && decide (PyData.depth _ ≤ 64)) = true
        simp [PyData.canLay0, PyData.canLayAll0, PyData.depth, PyData.depthAll, List.replicate]
      refine ⟨.list ((List.replicate 5 n).map PyData.int), .list ((List.replicate 5 n).map PyData.int), .lst (SqL.of (t7 _ _ (t6 _ _ upd_same))) (ints_dp (List.replicate 5 n)), .lst (SqL.of upd_same) (ints_dp (List.replicate 5 n)), sh5, sh5, ?_⟩
      rw [SeqAt.eqv_refl _ (SeqAt.canLay_of_shaped sh5)]
      exact ⟨false, rfl, _, _, _, _, _, rfl, ((gb3.same s4).same (t5.trans (t6.trans t7)))⟩
  · rintro σ G ⟨v2, v3, v4, v5, v6, rfl, _⟩
    intro a0 na0
    obtain ⟨t0, y0⟩ := exv_new (C := CLogError) na0
    generalize upd G a0 (ExK (.ref CLogError) none a0) = K0 at t0 y0 ⊢
    obtain ⟨xf1, nf1⟩ := (all 0 ((CInvalidSpans, some "item") : Addr × Option Str) rfl).2 "item" rfl
    refine ⟨_, rfl, .inl rfl, fun e1 d1 na1 nd1 ne1 => ?_⟩
    obtain ⟨t1, y1⟩ := sup_new (C := CInvalidSpans) (fld := "item") (y := .non) na1 nd1 ne1
    generalize upd (upd K0 d1 (.xd [("item", V.non)])) e1 (ExK (.ref CInvalidSpans) (some d1) e1) = K1 at t1 y1 ⊢
    refine ⟨e1, _, _, _, rfl, y1, xf1, nf1, rfl, ?_⟩
    obtain ⟨xf2, nf2⟩ := (all 1 ((CInvalidNodes, some "item") : Addr × Option Str) rfl).2 "item" rfl
    refine ⟨_, rfl, .inl rfl, fun e2 d2 na2 nd2 ne2 => ?_⟩
    obtain ⟨t2, y2⟩ := sup_new (C := CInvalidNodes) (fld := "item") (y := .non) na2 nd2 ne2
    generalize upd (upd K1 d2 (.xd [("item", V.non)])) e2 (ExK (.ref CInvalidNodes) (some d2) e2) = K2 at t2 y2 ⊢
    refine ⟨e2, _, _, _, rfl, y2, xf2, nf2, rfl, ?_⟩
    obtain ⟨xf3, nf3⟩ := (all 2 ((CInvalidBounds, some "item") : Addr × Option Str) rfl).2 "item" rfl
    refine ⟨_, rfl, .inl rfl, fun e3 d3 na3 nd3 ne3 => ?_⟩
    obtain ⟨t3, y3⟩ := sup_new (C := CInvalidBounds) (fld := "item") (y := .non) na3 nd3 ne3
    generalize upd (upd K2 d3 (.xd [("item", V.non)])) e3 (ExK (.ref CInvalidBounds) (some d3) e3) = K3 at t3 y3 ⊢
    refine ⟨e3, _, _, _, rfl, y3, xf3, nf3, rfl, ?_⟩
    obtain ⟨xf4, nf4⟩ := (all 3 ((CInvalidText, some "part") : Addr × Option Str) rfl).2 "part" rfl
    refine ⟨_, rfl, .inl rfl, fun e4 d4 na4 nd4 ne4 => ?_⟩
    obtain ⟨t4, y4⟩ := sup_new (C := CInvalidText) (fld := "part") (y := .non) na4 nd4 ne4
    generalize upd (upd K3 d4 (.xd [("part", V.non)])) e4 (ExK (.ref CInvalidText) (some d4) e4) = K4 at t4 y4 ⊢
    refine ⟨e4, _, _, _, rfl, y4, xf4, nf4, rfl, ?_⟩
    have y4' := (((y0.same t1).same t2).same t3).same t4
    refine ⟨(by show 4 ≤ sizeLine; decide), fun l nl => ?_⟩
    have y5 := y4'.same (same_upd (o := .lst [.non, .non, .non, .non]) nl)
    have hl : (upd K4 l (.lst [.non, .non, .non, .non])) l = some (.lst [.non, .non, .non, .non]) := upd_same
    generalize upd K4 l (.lst [.non, .non, .non, .non]) = K5 at y5 hl ⊢
    refine ⟨_, rfl, one1, fun l6 nl6 => ⟨l6, 4, _, rfl, rfl, upd_same, by decide, by decide, (by show 1 * 4 ≤ sizeLine; decide), fun l7 nl7 => ?_⟩⟩
    have t6 := same_upd (o := .lst [V.non]) nl6
    have t7 := same_upd (o := .lst (List.replicate (Int.toNat 4) [V.non]).flatten) nl7
    have y6 := (y5.same t6).same t7
    have shN : SeqAt.shaped (.list [PyData.none, .none, .none, .none]) = true := by decide +kernel
    refine ⟨.list [.none, .none, .none, .none], .list [.none, .none, .none, .none], .lst (SqL.of (t7 _ _ (t6 _ _ hl))) (.cons .non (.cons .non (.cons .non (.cons .non .nil)))), .lst (SqL.of upd_same) (.cons .non (.cons .non (.cons .non (.cons .non .nil)))), shN, shN, ?_⟩
    rw [SeqAt.eqv_refl _ (SeqAt.canLay_of_shaped shN)]
    refine ⟨true, rfl, ?_⟩
    refine ⟨_, rfl, a0, CLogError, _, List.replicate 15 false, rfl, y6, logE, logK, fun G8 p8 s8 np8 hp8 => ?_⟩
    refine ⟨.bool true, (List.replicate 15 false).map PyData.bool, .bl true, .lst (SqL.of hp8) (bls_dp _), by decide +kernel, bls_sh _, ?_⟩
    refine ⟨true, rfl, ?_⟩
    refine ⟨_, rfl, a0, CLogError, _, _, _, true, rfl, y6.same s8, logE, (fun u r => r), logV, ?_⟩
    exact q _
end
end LT

namespace LT
open PySem PySem.Spec PyProof.Rows L2
def clsInit : Stmt → Stmt
  | .ClassDef _ _ _ body _ _ _ _ _ _ _ => body.getD 0 (.Pass ⟨0, 0, 0, 0⟩)
  | s => s
/-- what the written part says of an __init__ -/
def InitK (P : Program) (K : PySem.W.Frag) (C : Addr) (st : Stmt) (q : Str) : Prop := ∃ (fI cda cc : Addr) (oc : Value) (od : Option Addr) (osl : Array (Option Value)) (kV doc pm ct : Value) (an : Option Addr) (ccl : Value) (cdd : Option Addr) (ccs : Array (Option Value)) (vs : Array Value) (file : Str) (tf : Tok) (cl : Value) (cld : Option Addr) (csl : Array (Option Value)),
  PySem.W.findIn K (.ref C) "__init__" = some (some (.ref fI)) ∧ K.lookup fI = some ⟨oc, od, .func (PySem.W.ksFn "__init__" q (defArgs st) (defBody st) (defScope st) .none kV doc pm an (.ref cda) ct cc), osl⟩ ∧ PySem.W.typeIn K (.ref fI) = some (.type "function") ∧
  PySem.W.codeIn K (.ref cda) q = true ∧ K.lookup cda = some ⟨ccl, cdd, .fields vs, ccs⟩ ∧ K.lookup cc = some ⟨cl, cld, .cell (some (.ref C)), csl⟩ ∧ vs[2]? = some (.str file tf) ∧ ((P.main.file : Str) == file) = true
/-- and of the class -/
structure SupK (P : Program) (K : PySem.W.Frag) (mg : Str → Option Value) (C : Addr) (fld : Str) : Prop where
  ex : OexC K C
  nofld : PySem.W.findIn K (.ref C) fld = some none
  sup : PySem.W.ks_superIn K C C "__init__" = some (some (.builtin "ValueError.__init__"))
  ve : PySem.W.subIn K (.ref C) (.type "ValueError") = some true
  own : PySem.W.mroIn K C (.ref C) = some true
  opq : PySem.W.nsIn K cStatics "thirdparty.any" = some none
  top : (P.main.scope.names.lookup ("super" : Str)).isSome = false
  z : mg "super" = none
section
variable {P : Program} {w : World} {K : PySem.W.Frag} {mg : Str → Option Value} {base : Heap} {C : Addr}
abbrev sIInvalidSpans : Stmt := clsInit (topS 2)
theorem ssIInvalidSpans : SScope "item" (defScope sIInvalidSpans) := ⟨rfl, rfl, rfl, rfl, rfl, rfl, rfl, by decide +kernel, by decide +kernel, by decide, by decide, by decide⟩
theorem sxInvalidSpans (g : mg "InvalidSpans" = some (.ref C)) (T : SupK P K mg C "item") (I : InitK P K C sIInvalidSpans "InvalidSpans.__init__") : SX P w K mg base "InvalidSpans" C "item" := by
  obtain ⟨fI, cda, cc, oc, od, osl, kV, doc, pm, ct, an, ccl, cdd, ccs, vs, file, tf, cl, cld, csl, i1, i2, i3, i4, i5, i6, i7, i8⟩ := I
  have S : Sup P K mg C cda cc "item" := ⟨T.ex, T.nofld, T.sup, T.ve, T.own, T.opq, ⟨cl, cld, csl, i6⟩, ⟨ccl, cdd, ccs, vs, file, tf, i5, i7, i8⟩, T.top, T.z⟩
  exact ⟨g, T.ex, fI, _, ["self", "item"], i1, i3, ok_init_super (k := 0) (lit := "invalid spans, first wrong item: ") i2 i4 ssIInvalidSpans S (by decide) rfl rfl (fun _ => ⟨_, rfl⟩) (fun _ => rfl) (fun _ => rfl), Binds.all fun us hl => match us, hl with | [_, _], _ => rfl⟩
abbrev sIInvalidNodes : Stmt := clsInit (topS 3)
theorem ssIInvalidNodes : SScope "item" (defScope sIInvalidNodes) := ⟨rfl, rfl, rfl, rfl, rfl, rfl, rfl, by decide +kernel, by decide +kernel, by decide, by decide, by decide⟩
theorem sxInvalidNodes (g : mg "InvalidNodes" = some (.ref C)) (T : SupK P K mg C "item") (I : InitK P K C sIInvalidNodes "InvalidNodes.__init__") : SX P w K mg base "InvalidNodes" C "item" := by
  obtain ⟨fI, cda, cc, oc, od, osl, kV, doc, pm, ct, an, ccl, cdd, ccs, vs, file, tf, cl, cld, csl, i1, i2, i3, i4, i5, i6, i7, i8⟩ := I
  have S : Sup P K mg C cda cc "item" := ⟨T.ex, T.nofld, T.sup, T.ve, T.own, T.opq, ⟨cl, cld, csl, i6⟩, ⟨ccl, cdd, ccs, vs, file, tf, i5, i7, i8⟩, T.top, T.z⟩
  exact ⟨g, T.ex, fI, _, ["self", "item"], i1, i3, ok_init_super (k := 0) (lit := "invalid nodes, first wrong item: ") i2 i4 ssIInvalidNodes S (by decide) rfl rfl (fun _ => ⟨_, rfl⟩) (fun _ => rfl) (fun _ => rfl), Binds.all fun us hl => match us, hl with | [_, _], _ => rfl⟩
abbrev sIInvalidBounds : Stmt := clsInit (topS 4)
theorem ssIInvalidBounds : SScope "item" (defScope sIInvalidBounds) := ⟨rfl, rfl, rfl, rfl, rfl, rfl, rfl, by decide +kernel, by decide +kernel, by decide, by decide, by decide⟩
theorem sxInvalidBounds (g : mg "InvalidBounds" = some (.ref C)) (T : SupK P K mg C "item") (I : InitK P K C sIInvalidBounds "InvalidBounds.__init__") : SX P w K mg base "InvalidBounds" C "item" := by
  obtain ⟨fI, cda, cc, oc, od, osl, kV, doc, pm, ct, an, ccl, cdd, ccs, vs, file, tf, cl, cld, csl, i1, i2, i3, i4, i5, i6, i7, i8⟩ := I
  have S : Sup P K mg C cda cc "item" := ⟨T.ex, T.nofld, T.sup, T.ve, T.own, T.opq, ⟨cl, cld, csl, i6⟩, ⟨ccl, cdd, ccs, vs, file, tf, i5, i7, i8⟩, T.top, T.z⟩
  exact ⟨g, T.ex, fI, _, ["self", "item"], i1, i3, ok_init_super (k := 0) (lit := "invalid bounds, first wrong item: ") i2 i4 ssIInvalidBounds S (by decide) rfl rfl (fun _ => ⟨_, rfl⟩) (fun _ => rfl) (fun _ => rfl), Binds.all fun us hl => match us, hl with | [_, _], _ => rfl⟩
abbrev sIInvalidText : Stmt := clsInit (topS 5)
theorem ssIInvalidText : SScope "part" (defScope sIInvalidText) := ⟨rfl, rfl, rfl, rfl, rfl, rfl, rfl, by decide +kernel, by decide +kernel, by decide, by decide, by decide⟩
theorem sxInvalidText (g : mg "InvalidText" = some (.ref C)) (T : SupK P K mg C "part") (I : InitK P K C sIInvalidText "InvalidText.__init__") : SX P w K mg base "InvalidText" C "part" := by
  obtain ⟨fI, cda, cc, oc, od, osl, kV, doc, pm, ct, an, ccl, cdd, ccs, vs, file, tf, cl, cld, csl, i1, i2, i3, i4, i5, i6, i7, i8⟩ := I
  have S : Sup P K mg C cda cc "part" := ⟨T.ex, T.nofld, T.sup, T.ve, T.own, T.opq, ⟨cl, cld, csl, i6⟩, ⟨ccl, cdd, ccs, vs, file, tf, i5, i7, i8⟩, T.top, T.z⟩
  exact ⟨g, T.ex, fI, _, ["self", "part"], i1, i3, ok_init_super (k := 0) (lit := "invalid text, first wrong part: ") i2 i4 ssIInvalidText S (by decide) rfl rfl (fun _ => ⟨_, rfl⟩) (fun _ => rfl) (fun _ => rfl), Binds.all fun us hl => match us, hl with | [_, _], _ => rfl⟩
abbrev sIOverBudget : Stmt := clsInit (topS 6)
theorem ssIOverBudget : SScope "count" (defScope sIOverBudget) := ⟨rfl, rfl, rfl, rfl, rfl, rfl, rfl, by decide +kernel, by decide +kernel, by decide, by decide, by decide⟩
theorem sxOverBudget (g : mg "OverBudget" = some (.ref C)) (T : SupK P K mg C "count") (I : InitK P K C sIOverBudget "OverBudget.__init__") : SX P w K mg base "OverBudget" C "count" := by
  obtain ⟨fI, cda, cc, oc, od, osl, kV, doc, pm, ct, an, ccl, cdd, ccs, vs, file, tf, cl, cld, csl, i1, i2, i3, i4, i5, i6, i7, i8⟩ := I
  have S : Sup P K mg C cda cc "count" := ⟨T.ex, T.nofld, T.sup, T.ve, T.own, T.opq, ⟨cl, cld, csl, i6⟩, ⟨ccl, cdd, ccs, vs, file, tf, i5, i7, i8⟩, T.top, T.z⟩
  exact ⟨g, T.ex, fI, _, ["self", "count"], i1, i3, ok_init_super (k := 0) (lit := "over the budget, sums that would be spent: ") i2 i4 ssIOverBudget S (by decide) rfl rfl (fun _ => ⟨_, rfl⟩) (fun _ => rfl) (fun _ => rfl), Binds.all fun us hl => match us, hl with | [_, _], _ => rfl⟩
end
end LT

namespace LT
open PySem PySem.Spec PyProof.Rows L2
/-- isinstance of an own class, from what the top says of it -/
theorem kit_of {K : PySem.W.Frag} {C D : Addr} {b : Bool} (i : PySem.W.isClsIn K D = true) (t : PySem.W.typeIn K (.ref D) = some (.type "type")) (s : PySem.W.subIn K (.ref C) (.ref D) = some b) (z : PySem.W.subIn K (.ref C) (.ref C) = some true) : PySem.W.kitOne K (.ref C) (.ref D) = some b := by
  unfold PySem.W.kitOne
  split
  · rename_i h
    have e : C = D := Value.ref.inj (beq_iff_eq.mp h)
    subst e
    rw [z] at s
    exact s
  · show (if ((PySem.W.clsIn K D).isSome && PySem.W.typeIn K (.ref D) == some (.type "type")) = true then PySem.W.subIn K (.ref C) (.ref D) else none) = some b
    have i' : (PySem.W.clsIn K D).isSome = true := i
    have e : ((PySem.W.clsIn K D).isSome && PySem.W.typeIn K (.ref D) == some (.type "type")) = true := by rw [i', t] <;> rfl
    rw [if_pos e]
    exact s
theorem kit_ty0 {K : PySem.W.Frag} {C : Addr} {T : String} {b : Bool} (m : PySem.W.kitMeta T = true) (s : PySem.W.subIn K (.ref C) (.type T) = some b) : PySem.W.kitOne K (.ref C) (.type T) = some b := by
  unfold PySem.W.kitOne
  rw [if_neg (by intro h; exact absurd (beq_iff_eq.mp h) (fun z => nomatch z))]
  show (if PySem.W.kitMeta T = true then PySem.W.subIn K (.ref C) (.type T) else none) = some b
  rw [if_pos m]
  exact s
theorem all_mk {l : PySem.W.OpenLaw} {w : World} {K : PySem.W.Frag} {h : Heap} {mg : Str → Option Value} {fa f0 f1 f2 f3 f4 : Addr} (X : K.In h) (G : h.Ns mainGlobals mg) (hfa : mg "law" = some (.ref fa))
    {od0 an0 od1 an1 od2 an2 od3 an3 od4 an4 : Option Addr} {sl0 sl1 sl2 sl3 sl4 : Array (Option Value)} {oc0 kV0 dc0 pm0 cd0 ct0 oc1 kV1 dc1 pm1 cd1 ct1 oc2 kV2 dc2 pm2 cd2 ct2 oc3 kV3 dc3 pm3 cd3 ct3 oc4 kV4 dc4 pm4 cd4 ct4 : Value}
    (a0 : PySem.W.nsIn K mainGlobals "_law_bag" = some (some (.ref f0))) (l0 : K.lookup f0 = some ⟨oc0, od0, .func (PySem.W.fnOf "_law_bag" "_law_bag" (defArgs sLawBag) (defBody sLawBag) (defScope sLawBag) .none kV0 dc0 pm0 an0 cd0 ct0), sl0⟩) (c0 : PySem.W.codeIn K cd0 "_law_bag" = true) (k0 : PySem.W.keepIn K (.ref f0) = true)
    (a1 : PySem.W.nsIn K mainGlobals "_law_pick" = some (some (.ref f1))) (l1 : K.lookup f1 = some ⟨oc1, od1, .func (PySem.W.fnOf "_law_pick" "_law_pick" (defArgs sLawPick) (defBody sLawPick) (defScope sLawPick) .none kV1 dc1 pm1 an1 cd1 ct1), sl1⟩) (c1 : PySem.W.codeIn K cd1 "_law_pick" = true) (k1 : PySem.W.keepIn K (.ref f1) = true)
    (a2 : PySem.W.nsIn K mainGlobals "_law_made" = some (some (.ref f2))) (l2 : K.lookup f2 = some ⟨oc2, od2, .func (PySem.W.fnOf "_law_made" "_law_made" (defArgs sLawMade) (defBody sLawMade) (defScope sLawMade) .none kV2 dc2 pm2 an2 cd2 ct2), sl2⟩) (c2 : PySem.W.codeIn K cd2 "_law_made" = true) (k2 : PySem.W.keepIn K (.ref f2) = true)
    (a3 : PySem.W.nsIn K mainGlobals "_law_classes" = some (some (.ref f3))) (l3 : K.lookup f3 = some ⟨oc3, od3, .func (PySem.W.fnOf "_law_classes" "_law_classes" (defArgs sLawClasses) (defBody sLawClasses) (defScope sLawClasses) .none kV3 dc3 pm3 an3 cd3 ct3), sl3⟩) (c3 : PySem.W.codeIn K cd3 "_law_classes" = true) (k3 : PySem.W.keepIn K (.ref f3) = true)
    (a4 : PySem.W.nsIn K mainGlobals "law" = some (some (.ref f4))) (l4 : K.lookup f4 = some ⟨oc4, od4, .func (PySem.W.fnOf "law" "law" (defArgs sLaw) (defBody sLaw) (defScope sLaw) .none kV4 dc4 pm4 an4 cd4 ct4), sl4⟩) (c4 : PySem.W.codeIn K cd4 "law" = true) (k4 : PySem.W.keepIn K (.ref f4) = true)
    (z_ValueError : PySem.W.nsIn K mainGlobals "ValueError" = some none)
    (z_enumerate : PySem.W.nsIn K mainGlobals "enumerate" = some none)
    (z_int : PySem.W.nsIn K mainGlobals "int" = some none)
    (z_isinstance : PySem.W.nsIn K mainGlobals "isinstance" = some none)
    (z_len : PySem.W.nsIn K mainGlobals "len" = some none)
    (z_max : PySem.W.nsIn K mainGlobals "max" = some none)
    (z_range : PySem.W.nsIn K mainGlobals "range" = some none)
    {CInvalidSpans CInvalidNodes CInvalidBounds CInvalidText COverBudget CInvalidSize CInvalidEntry CInvalidNode CInvalidSpan CInvalidNumber CInvalidHeight CInvalidBudget CInvalidOperation CNothing CInvalidCommand CLogError : Addr}
    (n_InvalidSpans : PySem.W.nsIn K mainGlobals "InvalidSpans" = some (some (.ref CInvalidSpans)))
    (i_InvalidSpans : PySem.W.isClsIn K CInvalidSpans = true)
    (t_InvalidSpans : PySem.W.typeIn K (.ref CInvalidSpans) = some (.type "type"))
    (n_InvalidNodes : PySem.W.nsIn K mainGlobals "InvalidNodes" = some (some (.ref CInvalidNodes)))
    (i_InvalidNodes : PySem.W.isClsIn K CInvalidNodes = true)
    (t_InvalidNodes : PySem.W.typeIn K (.ref CInvalidNodes) = some (.type "type"))
    (n_InvalidBounds : PySem.W.nsIn K mainGlobals "InvalidBounds" = some (some (.ref CInvalidBounds)))
    (i_InvalidBounds : PySem.W.isClsIn K CInvalidBounds = true)
    (t_InvalidBounds : PySem.W.typeIn K (.ref CInvalidBounds) = some (.type "type"))
    (n_InvalidText : PySem.W.nsIn K mainGlobals "InvalidText" = some (some (.ref CInvalidText)))
    (i_InvalidText : PySem.W.isClsIn K CInvalidText = true)
    (t_InvalidText : PySem.W.typeIn K (.ref CInvalidText) = some (.type "type"))
    (n_OverBudget : PySem.W.nsIn K mainGlobals "OverBudget" = some (some (.ref COverBudget)))
    (i_OverBudget : PySem.W.isClsIn K COverBudget = true)
    (t_OverBudget : PySem.W.typeIn K (.ref COverBudget) = some (.type "type"))
    (n_InvalidSize : PySem.W.nsIn K mainGlobals "InvalidSize" = some (some (.ref CInvalidSize)))
    (i_InvalidSize : PySem.W.isClsIn K CInvalidSize = true)
    (t_InvalidSize : PySem.W.typeIn K (.ref CInvalidSize) = some (.type "type"))
    (n_InvalidEntry : PySem.W.nsIn K mainGlobals "InvalidEntry" = some (some (.ref CInvalidEntry)))
    (i_InvalidEntry : PySem.W.isClsIn K CInvalidEntry = true)
    (t_InvalidEntry : PySem.W.typeIn K (.ref CInvalidEntry) = some (.type "type"))
    (n_InvalidNode : PySem.W.nsIn K mainGlobals "InvalidNode" = some (some (.ref CInvalidNode)))
    (i_InvalidNode : PySem.W.isClsIn K CInvalidNode = true)
    (t_InvalidNode : PySem.W.typeIn K (.ref CInvalidNode) = some (.type "type"))
    (n_InvalidSpan : PySem.W.nsIn K mainGlobals "InvalidSpan" = some (some (.ref CInvalidSpan)))
    (i_InvalidSpan : PySem.W.isClsIn K CInvalidSpan = true)
    (t_InvalidSpan : PySem.W.typeIn K (.ref CInvalidSpan) = some (.type "type"))
    (n_InvalidNumber : PySem.W.nsIn K mainGlobals "InvalidNumber" = some (some (.ref CInvalidNumber)))
    (i_InvalidNumber : PySem.W.isClsIn K CInvalidNumber = true)
    (t_InvalidNumber : PySem.W.typeIn K (.ref CInvalidNumber) = some (.type "type"))
    (n_InvalidHeight : PySem.W.nsIn K mainGlobals "InvalidHeight" = some (some (.ref CInvalidHeight)))
    (i_InvalidHeight : PySem.W.isClsIn K CInvalidHeight = true)
    (t_InvalidHeight : PySem.W.typeIn K (.ref CInvalidHeight) = some (.type "type"))
    (n_InvalidBudget : PySem.W.nsIn K mainGlobals "InvalidBudget" = some (some (.ref CInvalidBudget)))
    (i_InvalidBudget : PySem.W.isClsIn K CInvalidBudget = true)
    (t_InvalidBudget : PySem.W.typeIn K (.ref CInvalidBudget) = some (.type "type"))
    (n_InvalidOperation : PySem.W.nsIn K mainGlobals "InvalidOperation" = some (some (.ref CInvalidOperation)))
    (i_InvalidOperation : PySem.W.isClsIn K CInvalidOperation = true)
    (t_InvalidOperation : PySem.W.typeIn K (.ref CInvalidOperation) = some (.type "type"))
    (n_Nothing : PySem.W.nsIn K mainGlobals "Nothing" = some (some (.ref CNothing)))
    (i_Nothing : PySem.W.isClsIn K CNothing = true)
    (t_Nothing : PySem.W.typeIn K (.ref CNothing) = some (.type "type"))
    (n_InvalidCommand : PySem.W.nsIn K mainGlobals "InvalidCommand" = some (some (.ref CInvalidCommand)))
    (i_InvalidCommand : PySem.W.isClsIn K CInvalidCommand = true)
    (t_InvalidCommand : PySem.W.typeIn K (.ref CInvalidCommand) = some (.type "type"))
    (n_LogError : PySem.W.nsIn K mainGlobals "LogError" = some (some (.ref CLogError)))
    (i_LogError : PySem.W.isClsIn K CLogError = true)
    (t_LogError : PySem.W.typeIn K (.ref CLogError) = some (.type "type"))
    (k_InvalidSpans : PySem.W.keepIn K (.ref CInvalidSpans) = true)
    (b_InvalidSpans : PySem.W.subIn K (.ref CInvalidSpans) (.type "BaseException") = some true)
    (g_InvalidSpans : PySem.W.findIn K (.ref CInvalidSpans) "__getattribute__" = some (some (.builtin "BaseException.__getattribute__")))
    (a_InvalidSpans : PySem.W.findIn K (.ref CInvalidSpans) "__getattr__" = some none)
    (d_InvalidSpans : PySem.W.hasDictIn K CInvalidSpans = true)
    (c_InvalidSpans : PySem.W.findIn K (.ref CInvalidSpans) "__class__" = some (some (.builtin "object.__class__")))
    (m_InvalidSpans : PySem.W.mroIn K CInvalidSpans (.type "object") = some true)
    (v_InvalidSpans : PySem.W.subIn K (.ref CInvalidSpans) (.type "ValueError") = some true)
    (l_InvalidSpans : PySem.W.subIn K (.ref CInvalidSpans) (.ref CLogError) = some true)
    (s_InvalidSpans_InvalidSpans : PySem.W.subIn K (.ref CInvalidSpans) (.ref CInvalidSpans) = some true)
    (s_InvalidSpans_InvalidNodes : PySem.W.subIn K (.ref CInvalidSpans) (.ref CInvalidNodes) = some false)
    (s_InvalidSpans_InvalidBounds : PySem.W.subIn K (.ref CInvalidSpans) (.ref CInvalidBounds) = some false)
    (s_InvalidSpans_InvalidText : PySem.W.subIn K (.ref CInvalidSpans) (.ref CInvalidText) = some false)
    (s_InvalidSpans_OverBudget : PySem.W.subIn K (.ref CInvalidSpans) (.ref COverBudget) = some false)
    (s_InvalidSpans_InvalidSize : PySem.W.subIn K (.ref CInvalidSpans) (.ref CInvalidSize) = some false)
    (s_InvalidSpans_InvalidEntry : PySem.W.subIn K (.ref CInvalidSpans) (.ref CInvalidEntry) = some false)
    (s_InvalidSpans_InvalidNode : PySem.W.subIn K (.ref CInvalidSpans) (.ref CInvalidNode) = some false)
    (s_InvalidSpans_InvalidSpan : PySem.W.subIn K (.ref CInvalidSpans) (.ref CInvalidSpan) = some false)
    (s_InvalidSpans_InvalidNumber : PySem.W.subIn K (.ref CInvalidSpans) (.ref CInvalidNumber) = some false)
    (s_InvalidSpans_InvalidHeight : PySem.W.subIn K (.ref CInvalidSpans) (.ref CInvalidHeight) = some false)
    (s_InvalidSpans_InvalidBudget : PySem.W.subIn K (.ref CInvalidSpans) (.ref CInvalidBudget) = some false)
    (s_InvalidSpans_InvalidOperation : PySem.W.subIn K (.ref CInvalidSpans) (.ref CInvalidOperation) = some false)
    (s_InvalidSpans_Nothing : PySem.W.subIn K (.ref CInvalidSpans) (.ref CNothing) = some false)
    (s_InvalidSpans_InvalidCommand : PySem.W.subIn K (.ref CInvalidSpans) (.ref CInvalidCommand) = some false)
    (k_InvalidNodes : PySem.W.keepIn K (.ref CInvalidNodes) = true)
    (b_InvalidNodes : PySem.W.subIn K (.ref CInvalidNodes) (.type "BaseException") = some true)
    (g_InvalidNodes : PySem.W.findIn K (.ref CInvalidNodes) "__getattribute__" = some (some (.builtin "BaseException.__getattribute__")))
    (a_InvalidNodes : PySem.W.findIn K (.ref CInvalidNodes) "__getattr__" = some none)
    (d_InvalidNodes : PySem.W.hasDictIn K CInvalidNodes = true)
    (c_InvalidNodes : PySem.W.findIn K (.ref CInvalidNodes) "__class__" = some (some (.builtin "object.__class__")))
    (m_InvalidNodes : PySem.W.mroIn K CInvalidNodes (.type "object") = some true)
    (v_InvalidNodes : PySem.W.subIn K (.ref CInvalidNodes) (.type "ValueError") = some true)
    (l_InvalidNodes : PySem.W.subIn K (.ref CInvalidNodes) (.ref CLogError) = some true)
    (s_InvalidNodes_InvalidSpans : PySem.W.subIn K (.ref CInvalidNodes) (.ref CInvalidSpans) = some false)
    (s_InvalidNodes_InvalidNodes : PySem.W.subIn K (.ref CInvalidNodes) (.ref CInvalidNodes) = some true)
    (s_InvalidNodes_InvalidBounds : PySem.W.subIn K (.ref CInvalidNodes) (.ref CInvalidBounds) = some false)
    (s_InvalidNodes_InvalidText : PySem.W.subIn K (.ref CInvalidNodes) (.ref CInvalidText) = some false)
    (s_InvalidNodes_OverBudget : PySem.W.subIn K (.ref CInvalidNodes) (.ref COverBudget) = some false)
    (s_InvalidNodes_InvalidSize : PySem.W.subIn K (.ref CInvalidNodes) (.ref CInvalidSize) = some false)
    (s_InvalidNodes_InvalidEntry : PySem.W.subIn K (.ref CInvalidNodes) (.ref CInvalidEntry) = some false)
    (s_InvalidNodes_InvalidNode : PySem.W.subIn K (.ref CInvalidNodes) (.ref CInvalidNode) = some false)
    (s_InvalidNodes_InvalidSpan : PySem.W.subIn K (.ref CInvalidNodes) (.ref CInvalidSpan) = some false)
    (s_InvalidNodes_InvalidNumber : PySem.W.subIn K (.ref CInvalidNodes) (.ref CInvalidNumber) = some false)
    (s_InvalidNodes_InvalidHeight : PySem.W.subIn K (.ref CInvalidNodes) (.ref CInvalidHeight) = some false)
    (s_InvalidNodes_InvalidBudget : PySem.W.subIn K (.ref CInvalidNodes) (.ref CInvalidBudget) = some false)
    (s_InvalidNodes_InvalidOperation : PySem.W.subIn K (.ref CInvalidNodes) (.ref CInvalidOperation) = some false)
    (s_InvalidNodes_Nothing : PySem.W.subIn K (.ref CInvalidNodes) (.ref CNothing) = some false)
    (s_InvalidNodes_InvalidCommand : PySem.W.subIn K (.ref CInvalidNodes) (.ref CInvalidCommand) = some false)
    (k_InvalidBounds : PySem.W.keepIn K (.ref CInvalidBounds) = true)
    (b_InvalidBounds : PySem.W.subIn K (.ref CInvalidBounds) (.type "BaseException") = some true)
    (g_InvalidBounds : PySem.W.findIn K (.ref CInvalidBounds) "__getattribute__" = some (some (.builtin "BaseException.__getattribute__")))
    (a_InvalidBounds : PySem.W.findIn K (.ref CInvalidBounds) "__getattr__" = some none)
    (d_InvalidBounds : PySem.W.hasDictIn K CInvalidBounds = true)
    (c_InvalidBounds : PySem.W.findIn K (.ref CInvalidBounds) "__class__" = some (some (.builtin "object.__class__")))
    (m_InvalidBounds : PySem.W.mroIn K CInvalidBounds (.type "object") = some true)
    (v_InvalidBounds : PySem.W.subIn K (.ref CInvalidBounds) (.type "ValueError") = some true)
    (l_InvalidBounds : PySem.W.subIn K (.ref CInvalidBounds) (.ref CLogError) = some true)
    (s_InvalidBounds_InvalidSpans : PySem.W.subIn K (.ref CInvalidBounds) (.ref CInvalidSpans) = some false)
    (s_InvalidBounds_InvalidNodes : PySem.W.subIn K (.ref CInvalidBounds) (.ref CInvalidNodes) = some false)
    (s_InvalidBounds_InvalidBounds : PySem.W.subIn K (.ref CInvalidBounds) (.ref CInvalidBounds) = some true)
    (s_InvalidBounds_InvalidText : PySem.W.subIn K (.ref CInvalidBounds) (.ref CInvalidText) = some false)
    (s_InvalidBounds_OverBudget : PySem.W.subIn K (.ref CInvalidBounds) (.ref COverBudget) = some false)
    (s_InvalidBounds_InvalidSize : PySem.W.subIn K (.ref CInvalidBounds) (.ref CInvalidSize) = some false)
    (s_InvalidBounds_InvalidEntry : PySem.W.subIn K (.ref CInvalidBounds) (.ref CInvalidEntry) = some false)
    (s_InvalidBounds_InvalidNode : PySem.W.subIn K (.ref CInvalidBounds) (.ref CInvalidNode) = some false)
    (s_InvalidBounds_InvalidSpan : PySem.W.subIn K (.ref CInvalidBounds) (.ref CInvalidSpan) = some false)
    (s_InvalidBounds_InvalidNumber : PySem.W.subIn K (.ref CInvalidBounds) (.ref CInvalidNumber) = some false)
    (s_InvalidBounds_InvalidHeight : PySem.W.subIn K (.ref CInvalidBounds) (.ref CInvalidHeight) = some false)
    (s_InvalidBounds_InvalidBudget : PySem.W.subIn K (.ref CInvalidBounds) (.ref CInvalidBudget) = some false)
    (s_InvalidBounds_InvalidOperation : PySem.W.subIn K (.ref CInvalidBounds) (.ref CInvalidOperation) = some false)
    (s_InvalidBounds_Nothing : PySem.W.subIn K (.ref CInvalidBounds) (.ref CNothing) = some false)
    (s_InvalidBounds_InvalidCommand : PySem.W.subIn K (.ref CInvalidBounds) (.ref CInvalidCommand) = some false)
    (k_InvalidText : PySem.W.keepIn K (.ref CInvalidText) = true)
    (b_InvalidText : PySem.W.subIn K (.ref CInvalidText) (.type "BaseException") = some true)
    (g_InvalidText : PySem.W.findIn K (.ref CInvalidText) "__getattribute__" = some (some (.builtin "BaseException.__getattribute__")))
    (a_InvalidText : PySem.W.findIn K (.ref CInvalidText) "__getattr__" = some none)
    (d_InvalidText : PySem.W.hasDictIn K CInvalidText = true)
    (c_InvalidText : PySem.W.findIn K (.ref CInvalidText) "__class__" = some (some (.builtin "object.__class__")))
    (m_InvalidText : PySem.W.mroIn K CInvalidText (.type "object") = some true)
    (v_InvalidText : PySem.W.subIn K (.ref CInvalidText) (.type "ValueError") = some true)
    (l_InvalidText : PySem.W.subIn K (.ref CInvalidText) (.ref CLogError) = some true)
    (s_InvalidText_InvalidSpans : PySem.W.subIn K (.ref CInvalidText) (.ref CInvalidSpans) = some false)
    (s_InvalidText_InvalidNodes : PySem.W.subIn K (.ref CInvalidText) (.ref CInvalidNodes) = some false)
    (s_InvalidText_InvalidBounds : PySem.W.subIn K (.ref CInvalidText) (.ref CInvalidBounds) = some false)
    (s_InvalidText_InvalidText : PySem.W.subIn K (.ref CInvalidText) (.ref CInvalidText) = some true)
    (s_InvalidText_OverBudget : PySem.W.subIn K (.ref CInvalidText) (.ref COverBudget) = some false)
    (s_InvalidText_InvalidSize : PySem.W.subIn K (.ref CInvalidText) (.ref CInvalidSize) = some false)
    (s_InvalidText_InvalidEntry : PySem.W.subIn K (.ref CInvalidText) (.ref CInvalidEntry) = some false)
    (s_InvalidText_InvalidNode : PySem.W.subIn K (.ref CInvalidText) (.ref CInvalidNode) = some false)
    (s_InvalidText_InvalidSpan : PySem.W.subIn K (.ref CInvalidText) (.ref CInvalidSpan) = some false)
    (s_InvalidText_InvalidNumber : PySem.W.subIn K (.ref CInvalidText) (.ref CInvalidNumber) = some false)
    (s_InvalidText_InvalidHeight : PySem.W.subIn K (.ref CInvalidText) (.ref CInvalidHeight) = some false)
    (s_InvalidText_InvalidBudget : PySem.W.subIn K (.ref CInvalidText) (.ref CInvalidBudget) = some false)
    (s_InvalidText_InvalidOperation : PySem.W.subIn K (.ref CInvalidText) (.ref CInvalidOperation) = some false)
    (s_InvalidText_Nothing : PySem.W.subIn K (.ref CInvalidText) (.ref CNothing) = some false)
    (s_InvalidText_InvalidCommand : PySem.W.subIn K (.ref CInvalidText) (.ref CInvalidCommand) = some false)
    (k_OverBudget : PySem.W.keepIn K (.ref COverBudget) = true)
    (b_OverBudget : PySem.W.subIn K (.ref COverBudget) (.type "BaseException") = some true)
    (g_OverBudget : PySem.W.findIn K (.ref COverBudget) "__getattribute__" = some (some (.builtin "BaseException.__getattribute__")))
    (a_OverBudget : PySem.W.findIn K (.ref COverBudget) "__getattr__" = some none)
    (d_OverBudget : PySem.W.hasDictIn K COverBudget = true)
    (c_OverBudget : PySem.W.findIn K (.ref COverBudget) "__class__" = some (some (.builtin "object.__class__")))
    (m_OverBudget : PySem.W.mroIn K COverBudget (.type "object") = some true)
    (v_OverBudget : PySem.W.subIn K (.ref COverBudget) (.type "ValueError") = some true)
    (l_OverBudget : PySem.W.subIn K (.ref COverBudget) (.ref CLogError) = some true)
    (s_OverBudget_InvalidSpans : PySem.W.subIn K (.ref COverBudget) (.ref CInvalidSpans) = some false)
    (s_OverBudget_InvalidNodes : PySem.W.subIn K (.ref COverBudget) (.ref CInvalidNodes) = some false)
    (s_OverBudget_InvalidBounds : PySem.W.subIn K (.ref COverBudget) (.ref CInvalidBounds) = some false)
    (s_OverBudget_InvalidText : PySem.W.subIn K (.ref COverBudget) (.ref CInvalidText) = some false)
    (s_OverBudget_OverBudget : PySem.W.subIn K (.ref COverBudget) (.ref COverBudget) = some true)
    (s_OverBudget_InvalidSize : PySem.W.subIn K (.ref COverBudget) (.ref CInvalidSize) = some false)
    (s_OverBudget_InvalidEntry : PySem.W.subIn K (.ref COverBudget) (.ref CInvalidEntry) = some false)
    (s_OverBudget_InvalidNode : PySem.W.subIn K (.ref COverBudget) (.ref CInvalidNode) = some false)
    (s_OverBudget_InvalidSpan : PySem.W.subIn K (.ref COverBudget) (.ref CInvalidSpan) = some false)
    (s_OverBudget_InvalidNumber : PySem.W.subIn K (.ref COverBudget) (.ref CInvalidNumber) = some false)
    (s_OverBudget_InvalidHeight : PySem.W.subIn K (.ref COverBudget) (.ref CInvalidHeight) = some false)
    (s_OverBudget_InvalidBudget : PySem.W.subIn K (.ref COverBudget) (.ref CInvalidBudget) = some false)
    (s_OverBudget_InvalidOperation : PySem.W.subIn K (.ref COverBudget) (.ref CInvalidOperation) = some false)
    (s_OverBudget_Nothing : PySem.W.subIn K (.ref COverBudget) (.ref CNothing) = some false)
    (s_OverBudget_InvalidCommand : PySem.W.subIn K (.ref COverBudget) (.ref CInvalidCommand) = some false)
    (k_InvalidSize : PySem.W.keepIn K (.ref CInvalidSize) = true)
    (b_InvalidSize : PySem.W.subIn K (.ref CInvalidSize) (.type "BaseException") = some true)
    (g_InvalidSize : PySem.W.findIn K (.ref CInvalidSize) "__getattribute__" = some (some (.builtin "BaseException.__getattribute__")))
    (a_InvalidSize : PySem.W.findIn K (.ref CInvalidSize) "__getattr__" = some none)
    (d_InvalidSize : PySem.W.hasDictIn K CInvalidSize = true)
    (c_InvalidSize : PySem.W.findIn K (.ref CInvalidSize) "__class__" = some (some (.builtin "object.__class__")))
    (m_InvalidSize : PySem.W.mroIn K CInvalidSize (.type "object") = some true)
    (v_InvalidSize : PySem.W.subIn K (.ref CInvalidSize) (.type "ValueError") = some true)
    (l_InvalidSize : PySem.W.subIn K (.ref CInvalidSize) (.ref CLogError) = some true)
    (q_InvalidSize : PySem.W.excIn K CInvalidSize [.type "ValueError", .type "Exception", .type "BaseException", .type "object"] "ValueError.__new__" = true)
    (s_InvalidSize_InvalidSpans : PySem.W.subIn K (.ref CInvalidSize) (.ref CInvalidSpans) = some false)
    (s_InvalidSize_InvalidNodes : PySem.W.subIn K (.ref CInvalidSize) (.ref CInvalidNodes) = some false)
    (s_InvalidSize_InvalidBounds : PySem.W.subIn K (.ref CInvalidSize) (.ref CInvalidBounds) = some false)
    (s_InvalidSize_InvalidText : PySem.W.subIn K (.ref CInvalidSize) (.ref CInvalidText) = some false)
    (s_InvalidSize_OverBudget : PySem.W.subIn K (.ref CInvalidSize) (.ref COverBudget) = some false)
    (s_InvalidSize_InvalidSize : PySem.W.subIn K (.ref CInvalidSize) (.ref CInvalidSize) = some true)
    (s_InvalidSize_InvalidEntry : PySem.W.subIn K (.ref CInvalidSize) (.ref CInvalidEntry) = some false)
    (s_InvalidSize_InvalidNode : PySem.W.subIn K (.ref CInvalidSize) (.ref CInvalidNode) = some false)
    (s_InvalidSize_InvalidSpan : PySem.W.subIn K (.ref CInvalidSize) (.ref CInvalidSpan) = some false)
    (s_InvalidSize_InvalidNumber : PySem.W.subIn K (.ref CInvalidSize) (.ref CInvalidNumber) = some false)
    (s_InvalidSize_InvalidHeight : PySem.W.subIn K (.ref CInvalidSize) (.ref CInvalidHeight) = some false)
    (s_InvalidSize_InvalidBudget : PySem.W.subIn K (.ref CInvalidSize) (.ref CInvalidBudget) = some false)
    (s_InvalidSize_InvalidOperation : PySem.W.subIn K (.ref CInvalidSize) (.ref CInvalidOperation) = some false)
    (s_InvalidSize_Nothing : PySem.W.subIn K (.ref CInvalidSize) (.ref CNothing) = some false)
    (s_InvalidSize_InvalidCommand : PySem.W.subIn K (.ref CInvalidSize) (.ref CInvalidCommand) = some false)
    (k_InvalidEntry : PySem.W.keepIn K (.ref CInvalidEntry) = true)
    (b_InvalidEntry : PySem.W.subIn K (.ref CInvalidEntry) (.type "BaseException") = some true)
    (g_InvalidEntry : PySem.W.findIn K (.ref CInvalidEntry) "__getattribute__" = some (some (.builtin "BaseException.__getattribute__")))
    (a_InvalidEntry : PySem.W.findIn K (.ref CInvalidEntry) "__getattr__" = some none)
    (d_InvalidEntry : PySem.W.hasDictIn K CInvalidEntry = true)
    (c_InvalidEntry : PySem.W.findIn K (.ref CInvalidEntry) "__class__" = some (some (.builtin "object.__class__")))
    (m_InvalidEntry : PySem.W.mroIn K CInvalidEntry (.type "object") = some true)
    (v_InvalidEntry : PySem.W.subIn K (.ref CInvalidEntry) (.type "ValueError") = some true)
    (l_InvalidEntry : PySem.W.subIn K (.ref CInvalidEntry) (.ref CLogError) = some true)
    (q_InvalidEntry : PySem.W.excIn K CInvalidEntry [.type "ValueError", .type "Exception", .type "BaseException", .type "object"] "ValueError.__new__" = true)
    (s_InvalidEntry_InvalidSpans : PySem.W.subIn K (.ref CInvalidEntry) (.ref CInvalidSpans) = some false)
    (s_InvalidEntry_InvalidNodes : PySem.W.subIn K (.ref CInvalidEntry) (.ref CInvalidNodes) = some false)
    (s_InvalidEntry_InvalidBounds : PySem.W.subIn K (.ref CInvalidEntry) (.ref CInvalidBounds) = some false)
    (s_InvalidEntry_InvalidText : PySem.W.subIn K (.ref CInvalidEntry) (.ref CInvalidText) = some false)
    (s_InvalidEntry_OverBudget : PySem.W.subIn K (.ref CInvalidEntry) (.ref COverBudget) = some false)
    (s_InvalidEntry_InvalidSize : PySem.W.subIn K (.ref CInvalidEntry) (.ref CInvalidSize) = some false)
    (s_InvalidEntry_InvalidEntry : PySem.W.subIn K (.ref CInvalidEntry) (.ref CInvalidEntry) = some true)
    (s_InvalidEntry_InvalidNode : PySem.W.subIn K (.ref CInvalidEntry) (.ref CInvalidNode) = some false)
    (s_InvalidEntry_InvalidSpan : PySem.W.subIn K (.ref CInvalidEntry) (.ref CInvalidSpan) = some false)
    (s_InvalidEntry_InvalidNumber : PySem.W.subIn K (.ref CInvalidEntry) (.ref CInvalidNumber) = some false)
    (s_InvalidEntry_InvalidHeight : PySem.W.subIn K (.ref CInvalidEntry) (.ref CInvalidHeight) = some false)
    (s_InvalidEntry_InvalidBudget : PySem.W.subIn K (.ref CInvalidEntry) (.ref CInvalidBudget) = some false)
    (s_InvalidEntry_InvalidOperation : PySem.W.subIn K (.ref CInvalidEntry) (.ref CInvalidOperation) = some false)
    (s_InvalidEntry_Nothing : PySem.W.subIn K (.ref CInvalidEntry) (.ref CNothing) = some false)
    (s_InvalidEntry_InvalidCommand : PySem.W.subIn K (.ref CInvalidEntry) (.ref CInvalidCommand) = some false)
    (k_InvalidNode : PySem.W.keepIn K (.ref CInvalidNode) = true)
    (b_InvalidNode : PySem.W.subIn K (.ref CInvalidNode) (.type "BaseException") = some true)
    (g_InvalidNode : PySem.W.findIn K (.ref CInvalidNode) "__getattribute__" = some (some (.builtin "BaseException.__getattribute__")))
    (a_InvalidNode : PySem.W.findIn K (.ref CInvalidNode) "__getattr__" = some none)
    (d_InvalidNode : PySem.W.hasDictIn K CInvalidNode = true)
    (c_InvalidNode : PySem.W.findIn K (.ref CInvalidNode) "__class__" = some (some (.builtin "object.__class__")))
    (m_InvalidNode : PySem.W.mroIn K CInvalidNode (.type "object") = some true)
    (v_InvalidNode : PySem.W.subIn K (.ref CInvalidNode) (.type "ValueError") = some true)
    (l_InvalidNode : PySem.W.subIn K (.ref CInvalidNode) (.ref CLogError) = some true)
    (q_InvalidNode : PySem.W.excIn K CInvalidNode [.type "ValueError", .type "Exception", .type "BaseException", .type "object"] "ValueError.__new__" = true)
    (s_InvalidNode_InvalidSpans : PySem.W.subIn K (.ref CInvalidNode) (.ref CInvalidSpans) = some false)
    (s_InvalidNode_InvalidNodes : PySem.W.subIn K (.ref CInvalidNode) (.ref CInvalidNodes) = some false)
    (s_InvalidNode_InvalidBounds : PySem.W.subIn K (.ref CInvalidNode) (.ref CInvalidBounds) = some false)
    (s_InvalidNode_InvalidText : PySem.W.subIn K (.ref CInvalidNode) (.ref CInvalidText) = some false)
    (s_InvalidNode_OverBudget : PySem.W.subIn K (.ref CInvalidNode) (.ref COverBudget) = some false)
    (s_InvalidNode_InvalidSize : PySem.W.subIn K (.ref CInvalidNode) (.ref CInvalidSize) = some false)
    (s_InvalidNode_InvalidEntry : PySem.W.subIn K (.ref CInvalidNode) (.ref CInvalidEntry) = some false)
    (s_InvalidNode_InvalidNode : PySem.W.subIn K (.ref CInvalidNode) (.ref CInvalidNode) = some true)
    (s_InvalidNode_InvalidSpan : PySem.W.subIn K (.ref CInvalidNode) (.ref CInvalidSpan) = some false)
    (s_InvalidNode_InvalidNumber : PySem.W.subIn K (.ref CInvalidNode) (.ref CInvalidNumber) = some false)
    (s_InvalidNode_InvalidHeight : PySem.W.subIn K (.ref CInvalidNode) (.ref CInvalidHeight) = some false)
    (s_InvalidNode_InvalidBudget : PySem.W.subIn K (.ref CInvalidNode) (.ref CInvalidBudget) = some false)
    (s_InvalidNode_InvalidOperation : PySem.W.subIn K (.ref CInvalidNode) (.ref CInvalidOperation) = some false)
    (s_InvalidNode_Nothing : PySem.W.subIn K (.ref CInvalidNode) (.ref CNothing) = some false)
    (s_InvalidNode_InvalidCommand : PySem.W.subIn K (.ref CInvalidNode) (.ref CInvalidCommand) = some false)
    (k_InvalidSpan : PySem.W.keepIn K (.ref CInvalidSpan) = true)
    (b_InvalidSpan : PySem.W.subIn K (.ref CInvalidSpan) (.type "BaseException") = some true)
    (g_InvalidSpan : PySem.W.findIn K (.ref CInvalidSpan) "__getattribute__" = some (some (.builtin "BaseException.__getattribute__")))
    (a_InvalidSpan : PySem.W.findIn K (.ref CInvalidSpan) "__getattr__" = some none)
    (d_InvalidSpan : PySem.W.hasDictIn K CInvalidSpan = true)
    (c_InvalidSpan : PySem.W.findIn K (.ref CInvalidSpan) "__class__" = some (some (.builtin "object.__class__")))
    (m_InvalidSpan : PySem.W.mroIn K CInvalidSpan (.type "object") = some true)
    (v_InvalidSpan : PySem.W.subIn K (.ref CInvalidSpan) (.type "ValueError") = some true)
    (l_InvalidSpan : PySem.W.subIn K (.ref CInvalidSpan) (.ref CLogError) = some true)
    (q_InvalidSpan : PySem.W.excIn K CInvalidSpan [.type "ValueError", .type "Exception", .type "BaseException", .type "object"] "ValueError.__new__" = true)
    (s_InvalidSpan_InvalidSpans : PySem.W.subIn K (.ref CInvalidSpan) (.ref CInvalidSpans) = some false)
    (s_InvalidSpan_InvalidNodes : PySem.W.subIn K (.ref CInvalidSpan) (.ref CInvalidNodes) = some false)
    (s_InvalidSpan_InvalidBounds : PySem.W.subIn K (.ref CInvalidSpan) (.ref CInvalidBounds) = some false)
    (s_InvalidSpan_InvalidText : PySem.W.subIn K (.ref CInvalidSpan) (.ref CInvalidText) = some false)
    (s_InvalidSpan_OverBudget : PySem.W.subIn K (.ref CInvalidSpan) (.ref COverBudget) = some false)
    (s_InvalidSpan_InvalidSize : PySem.W.subIn K (.ref CInvalidSpan) (.ref CInvalidSize) = some false)
    (s_InvalidSpan_InvalidEntry : PySem.W.subIn K (.ref CInvalidSpan) (.ref CInvalidEntry) = some false)
    (s_InvalidSpan_InvalidNode : PySem.W.subIn K (.ref CInvalidSpan) (.ref CInvalidNode) = some false)
    (s_InvalidSpan_InvalidSpan : PySem.W.subIn K (.ref CInvalidSpan) (.ref CInvalidSpan) = some true)
    (s_InvalidSpan_InvalidNumber : PySem.W.subIn K (.ref CInvalidSpan) (.ref CInvalidNumber) = some false)
    (s_InvalidSpan_InvalidHeight : PySem.W.subIn K (.ref CInvalidSpan) (.ref CInvalidHeight) = some false)
    (s_InvalidSpan_InvalidBudget : PySem.W.subIn K (.ref CInvalidSpan) (.ref CInvalidBudget) = some false)
    (s_InvalidSpan_InvalidOperation : PySem.W.subIn K (.ref CInvalidSpan) (.ref CInvalidOperation) = some false)
    (s_InvalidSpan_Nothing : PySem.W.subIn K (.ref CInvalidSpan) (.ref CNothing) = some false)
    (s_InvalidSpan_InvalidCommand : PySem.W.subIn K (.ref CInvalidSpan) (.ref CInvalidCommand) = some false)
    (k_InvalidNumber : PySem.W.keepIn K (.ref CInvalidNumber) = true)
    (b_InvalidNumber : PySem.W.subIn K (.ref CInvalidNumber) (.type "BaseException") = some true)
    (g_InvalidNumber : PySem.W.findIn K (.ref CInvalidNumber) "__getattribute__" = some (some (.builtin "BaseException.__getattribute__")))
    (a_InvalidNumber : PySem.W.findIn K (.ref CInvalidNumber) "__getattr__" = some none)
    (d_InvalidNumber : PySem.W.hasDictIn K CInvalidNumber = true)
    (c_InvalidNumber : PySem.W.findIn K (.ref CInvalidNumber) "__class__" = some (some (.builtin "object.__class__")))
    (m_InvalidNumber : PySem.W.mroIn K CInvalidNumber (.type "object") = some true)
    (v_InvalidNumber : PySem.W.subIn K (.ref CInvalidNumber) (.type "ValueError") = some true)
    (l_InvalidNumber : PySem.W.subIn K (.ref CInvalidNumber) (.ref CLogError) = some true)
    (q_InvalidNumber : PySem.W.excIn K CInvalidNumber [.type "ValueError", .type "Exception", .type "BaseException", .type "object"] "ValueError.__new__" = true)
    (s_InvalidNumber_InvalidSpans : PySem.W.subIn K (.ref CInvalidNumber) (.ref CInvalidSpans) = some false)
    (s_InvalidNumber_InvalidNodes : PySem.W.subIn K (.ref CInvalidNumber) (.ref CInvalidNodes) = some false)
    (s_InvalidNumber_InvalidBounds : PySem.W.subIn K (.ref CInvalidNumber) (.ref CInvalidBounds) = some false)
    (s_InvalidNumber_InvalidText : PySem.W.subIn K (.ref CInvalidNumber) (.ref CInvalidText) = some false)
    (s_InvalidNumber_OverBudget : PySem.W.subIn K (.ref CInvalidNumber) (.ref COverBudget) = some false)
    (s_InvalidNumber_InvalidSize : PySem.W.subIn K (.ref CInvalidNumber) (.ref CInvalidSize) = some false)
    (s_InvalidNumber_InvalidEntry : PySem.W.subIn K (.ref CInvalidNumber) (.ref CInvalidEntry) = some false)
    (s_InvalidNumber_InvalidNode : PySem.W.subIn K (.ref CInvalidNumber) (.ref CInvalidNode) = some false)
    (s_InvalidNumber_InvalidSpan : PySem.W.subIn K (.ref CInvalidNumber) (.ref CInvalidSpan) = some false)
    (s_InvalidNumber_InvalidNumber : PySem.W.subIn K (.ref CInvalidNumber) (.ref CInvalidNumber) = some true)
    (s_InvalidNumber_InvalidHeight : PySem.W.subIn K (.ref CInvalidNumber) (.ref CInvalidHeight) = some false)
    (s_InvalidNumber_InvalidBudget : PySem.W.subIn K (.ref CInvalidNumber) (.ref CInvalidBudget) = some false)
    (s_InvalidNumber_InvalidOperation : PySem.W.subIn K (.ref CInvalidNumber) (.ref CInvalidOperation) = some false)
    (s_InvalidNumber_Nothing : PySem.W.subIn K (.ref CInvalidNumber) (.ref CNothing) = some false)
    (s_InvalidNumber_InvalidCommand : PySem.W.subIn K (.ref CInvalidNumber) (.ref CInvalidCommand) = some false)
    (k_InvalidHeight : PySem.W.keepIn K (.ref CInvalidHeight) = true)
    (b_InvalidHeight : PySem.W.subIn K (.ref CInvalidHeight) (.type "BaseException") = some true)
    (g_InvalidHeight : PySem.W.findIn K (.ref CInvalidHeight) "__getattribute__" = some (some (.builtin "BaseException.__getattribute__")))
    (a_InvalidHeight : PySem.W.findIn K (.ref CInvalidHeight) "__getattr__" = some none)
    (d_InvalidHeight : PySem.W.hasDictIn K CInvalidHeight = true)
    (c_InvalidHeight : PySem.W.findIn K (.ref CInvalidHeight) "__class__" = some (some (.builtin "object.__class__")))
    (m_InvalidHeight : PySem.W.mroIn K CInvalidHeight (.type "object") = some true)
    (v_InvalidHeight : PySem.W.subIn K (.ref CInvalidHeight) (.type "ValueError") = some true)
    (l_InvalidHeight : PySem.W.subIn K (.ref CInvalidHeight) (.ref CLogError) = some true)
    (q_InvalidHeight : PySem.W.excIn K CInvalidHeight [.type "ValueError", .type "Exception", .type "BaseException", .type "object"] "ValueError.__new__" = true)
    (s_InvalidHeight_InvalidSpans : PySem.W.subIn K (.ref CInvalidHeight) (.ref CInvalidSpans) = some false)
    (s_InvalidHeight_InvalidNodes : PySem.W.subIn K (.ref CInvalidHeight) (.ref CInvalidNodes) = some false)
    (s_InvalidHeight_InvalidBounds : PySem.W.subIn K (.ref CInvalidHeight) (.ref CInvalidBounds) = some false)
    (s_InvalidHeight_InvalidText : PySem.W.subIn K (.ref CInvalidHeight) (.ref CInvalidText) = some false)
    (s_InvalidHeight_OverBudget : PySem.W.subIn K (.ref CInvalidHeight) (.ref COverBudget) = some false)
    (s_InvalidHeight_InvalidSize : PySem.W.subIn K (.ref CInvalidHeight) (.ref CInvalidSize) = some false)
    (s_InvalidHeight_InvalidEntry : PySem.W.subIn K (.ref CInvalidHeight) (.ref CInvalidEntry) = some false)
    (s_InvalidHeight_InvalidNode : PySem.W.subIn K (.ref CInvalidHeight) (.ref CInvalidNode) = some false)
    (s_InvalidHeight_InvalidSpan : PySem.W.subIn K (.ref CInvalidHeight) (.ref CInvalidSpan) = some false)
    (s_InvalidHeight_InvalidNumber : PySem.W.subIn K (.ref CInvalidHeight) (.ref CInvalidNumber) = some false)
    (s_InvalidHeight_InvalidHeight : PySem.W.subIn K (.ref CInvalidHeight) (.ref CInvalidHeight) = some true)
    (s_InvalidHeight_InvalidBudget : PySem.W.subIn K (.ref CInvalidHeight) (.ref CInvalidBudget) = some false)
    (s_InvalidHeight_InvalidOperation : PySem.W.subIn K (.ref CInvalidHeight) (.ref CInvalidOperation) = some false)
    (s_InvalidHeight_Nothing : PySem.W.subIn K (.ref CInvalidHeight) (.ref CNothing) = some false)
    (s_InvalidHeight_InvalidCommand : PySem.W.subIn K (.ref CInvalidHeight) (.ref CInvalidCommand) = some false)
    (k_InvalidBudget : PySem.W.keepIn K (.ref CInvalidBudget) = true)
    (b_InvalidBudget : PySem.W.subIn K (.ref CInvalidBudget) (.type "BaseException") = some true)
    (g_InvalidBudget : PySem.W.findIn K (.ref CInvalidBudget) "__getattribute__" = some (some (.builtin "BaseException.__getattribute__")))
    (a_InvalidBudget : PySem.W.findIn K (.ref CInvalidBudget) "__getattr__" = some none)
    (d_InvalidBudget : PySem.W.hasDictIn K CInvalidBudget = true)
    (c_InvalidBudget : PySem.W.findIn K (.ref CInvalidBudget) "__class__" = some (some (.builtin "object.__class__")))
    (m_InvalidBudget : PySem.W.mroIn K CInvalidBudget (.type "object") = some true)
    (v_InvalidBudget : PySem.W.subIn K (.ref CInvalidBudget) (.type "ValueError") = some true)
    (l_InvalidBudget : PySem.W.subIn K (.ref CInvalidBudget) (.ref CLogError) = some true)
    (q_InvalidBudget : PySem.W.excIn K CInvalidBudget [.type "ValueError", .type "Exception", .type "BaseException", .type "object"] "ValueError.__new__" = true)
    (s_InvalidBudget_InvalidSpans : PySem.W.subIn K (.ref CInvalidBudget) (.ref CInvalidSpans) = some false)
    (s_InvalidBudget_InvalidNodes : PySem.W.subIn K (.ref CInvalidBudget) (.ref CInvalidNodes) = some false)
    (s_InvalidBudget_InvalidBounds : PySem.W.subIn K (.ref CInvalidBudget) (.ref CInvalidBounds) = some false)
    (s_InvalidBudget_InvalidText : PySem.W.subIn K (.ref CInvalidBudget) (.ref CInvalidText) = some false)
    (s_InvalidBudget_OverBudget : PySem.W.subIn K (.ref CInvalidBudget) (.ref COverBudget) = some false)
    (s_InvalidBudget_InvalidSize : PySem.W.subIn K (.ref CInvalidBudget) (.ref CInvalidSize) = some false)
    (s_InvalidBudget_InvalidEntry : PySem.W.subIn K (.ref CInvalidBudget) (.ref CInvalidEntry) = some false)
    (s_InvalidBudget_InvalidNode : PySem.W.subIn K (.ref CInvalidBudget) (.ref CInvalidNode) = some false)
    (s_InvalidBudget_InvalidSpan : PySem.W.subIn K (.ref CInvalidBudget) (.ref CInvalidSpan) = some false)
    (s_InvalidBudget_InvalidNumber : PySem.W.subIn K (.ref CInvalidBudget) (.ref CInvalidNumber) = some false)
    (s_InvalidBudget_InvalidHeight : PySem.W.subIn K (.ref CInvalidBudget) (.ref CInvalidHeight) = some false)
    (s_InvalidBudget_InvalidBudget : PySem.W.subIn K (.ref CInvalidBudget) (.ref CInvalidBudget) = some true)
    (s_InvalidBudget_InvalidOperation : PySem.W.subIn K (.ref CInvalidBudget) (.ref CInvalidOperation) = some false)
    (s_InvalidBudget_Nothing : PySem.W.subIn K (.ref CInvalidBudget) (.ref CNothing) = some false)
    (s_InvalidBudget_InvalidCommand : PySem.W.subIn K (.ref CInvalidBudget) (.ref CInvalidCommand) = some false)
    (k_InvalidOperation : PySem.W.keepIn K (.ref CInvalidOperation) = true)
    (b_InvalidOperation : PySem.W.subIn K (.ref CInvalidOperation) (.type "BaseException") = some true)
    (g_InvalidOperation : PySem.W.findIn K (.ref CInvalidOperation) "__getattribute__" = some (some (.builtin "BaseException.__getattribute__")))
    (a_InvalidOperation : PySem.W.findIn K (.ref CInvalidOperation) "__getattr__" = some none)
    (d_InvalidOperation : PySem.W.hasDictIn K CInvalidOperation = true)
    (c_InvalidOperation : PySem.W.findIn K (.ref CInvalidOperation) "__class__" = some (some (.builtin "object.__class__")))
    (m_InvalidOperation : PySem.W.mroIn K CInvalidOperation (.type "object") = some true)
    (v_InvalidOperation : PySem.W.subIn K (.ref CInvalidOperation) (.type "ValueError") = some true)
    (l_InvalidOperation : PySem.W.subIn K (.ref CInvalidOperation) (.ref CLogError) = some true)
    (q_InvalidOperation : PySem.W.excIn K CInvalidOperation [.type "ValueError", .type "Exception", .type "BaseException", .type "object"] "ValueError.__new__" = true)
    (s_InvalidOperation_InvalidSpans : PySem.W.subIn K (.ref CInvalidOperation) (.ref CInvalidSpans) = some false)
    (s_InvalidOperation_InvalidNodes : PySem.W.subIn K (.ref CInvalidOperation) (.ref CInvalidNodes) = some false)
    (s_InvalidOperation_InvalidBounds : PySem.W.subIn K (.ref CInvalidOperation) (.ref CInvalidBounds) = some false)
    (s_InvalidOperation_InvalidText : PySem.W.subIn K (.ref CInvalidOperation) (.ref CInvalidText) = some false)
    (s_InvalidOperation_OverBudget : PySem.W.subIn K (.ref CInvalidOperation) (.ref COverBudget) = some false)
    (s_InvalidOperation_InvalidSize : PySem.W.subIn K (.ref CInvalidOperation) (.ref CInvalidSize) = some false)
    (s_InvalidOperation_InvalidEntry : PySem.W.subIn K (.ref CInvalidOperation) (.ref CInvalidEntry) = some false)
    (s_InvalidOperation_InvalidNode : PySem.W.subIn K (.ref CInvalidOperation) (.ref CInvalidNode) = some false)
    (s_InvalidOperation_InvalidSpan : PySem.W.subIn K (.ref CInvalidOperation) (.ref CInvalidSpan) = some false)
    (s_InvalidOperation_InvalidNumber : PySem.W.subIn K (.ref CInvalidOperation) (.ref CInvalidNumber) = some false)
    (s_InvalidOperation_InvalidHeight : PySem.W.subIn K (.ref CInvalidOperation) (.ref CInvalidHeight) = some false)
    (s_InvalidOperation_InvalidBudget : PySem.W.subIn K (.ref CInvalidOperation) (.ref CInvalidBudget) = some false)
    (s_InvalidOperation_InvalidOperation : PySem.W.subIn K (.ref CInvalidOperation) (.ref CInvalidOperation) = some true)
    (s_InvalidOperation_Nothing : PySem.W.subIn K (.ref CInvalidOperation) (.ref CNothing) = some false)
    (s_InvalidOperation_InvalidCommand : PySem.W.subIn K (.ref CInvalidOperation) (.ref CInvalidCommand) = some false)
    (k_Nothing : PySem.W.keepIn K (.ref CNothing) = true)
    (b_Nothing : PySem.W.subIn K (.ref CNothing) (.type "BaseException") = some true)
    (g_Nothing : PySem.W.findIn K (.ref CNothing) "__getattribute__" = some (some (.builtin "BaseException.__getattribute__")))
    (a_Nothing : PySem.W.findIn K (.ref CNothing) "__getattr__" = some none)
    (d_Nothing : PySem.W.hasDictIn K CNothing = true)
    (c_Nothing : PySem.W.findIn K (.ref CNothing) "__class__" = some (some (.builtin "object.__class__")))
    (m_Nothing : PySem.W.mroIn K CNothing (.type "object") = some true)
    (v_Nothing : PySem.W.subIn K (.ref CNothing) (.type "ValueError") = some true)
    (l_Nothing : PySem.W.subIn K (.ref CNothing) (.ref CLogError) = some true)
    (q_Nothing : PySem.W.excIn K CNothing [.type "ValueError", .type "Exception", .type "BaseException", .type "object"] "ValueError.__new__" = true)
    (s_Nothing_InvalidSpans : PySem.W.subIn K (.ref CNothing) (.ref CInvalidSpans) = some false)
    (s_Nothing_InvalidNodes : PySem.W.subIn K (.ref CNothing) (.ref CInvalidNodes) = some false)
    (s_Nothing_InvalidBounds : PySem.W.subIn K (.ref CNothing) (.ref CInvalidBounds) = some false)
    (s_Nothing_InvalidText : PySem.W.subIn K (.ref CNothing) (.ref CInvalidText) = some false)
    (s_Nothing_OverBudget : PySem.W.subIn K (.ref CNothing) (.ref COverBudget) = some false)
    (s_Nothing_InvalidSize : PySem.W.subIn K (.ref CNothing) (.ref CInvalidSize) = some false)
    (s_Nothing_InvalidEntry : PySem.W.subIn K (.ref CNothing) (.ref CInvalidEntry) = some false)
    (s_Nothing_InvalidNode : PySem.W.subIn K (.ref CNothing) (.ref CInvalidNode) = some false)
    (s_Nothing_InvalidSpan : PySem.W.subIn K (.ref CNothing) (.ref CInvalidSpan) = some false)
    (s_Nothing_InvalidNumber : PySem.W.subIn K (.ref CNothing) (.ref CInvalidNumber) = some false)
    (s_Nothing_InvalidHeight : PySem.W.subIn K (.ref CNothing) (.ref CInvalidHeight) = some false)
    (s_Nothing_InvalidBudget : PySem.W.subIn K (.ref CNothing) (.ref CInvalidBudget) = some false)
    (s_Nothing_InvalidOperation : PySem.W.subIn K (.ref CNothing) (.ref CInvalidOperation) = some false)
    (s_Nothing_Nothing : PySem.W.subIn K (.ref CNothing) (.ref CNothing) = some true)
    (s_Nothing_InvalidCommand : PySem.W.subIn K (.ref CNothing) (.ref CInvalidCommand) = some false)
    (k_InvalidCommand : PySem.W.keepIn K (.ref CInvalidCommand) = true)
    (b_InvalidCommand : PySem.W.subIn K (.ref CInvalidCommand) (.type "BaseException") = some true)
    (g_InvalidCommand : PySem.W.findIn K (.ref CInvalidCommand) "__getattribute__" = some (some (.builtin "BaseException.__getattribute__")))
    (a_InvalidCommand : PySem.W.findIn K (.ref CInvalidCommand) "__getattr__" = some none)
    (d_InvalidCommand : PySem.W.hasDictIn K CInvalidCommand = true)
    (c_InvalidCommand : PySem.W.findIn K (.ref CInvalidCommand) "__class__" = some (some (.builtin "object.__class__")))
    (m_InvalidCommand : PySem.W.mroIn K CInvalidCommand (.type "object") = some true)
    (v_InvalidCommand : PySem.W.subIn K (.ref CInvalidCommand) (.type "ValueError") = some true)
    (l_InvalidCommand : PySem.W.subIn K (.ref CInvalidCommand) (.ref CLogError) = some true)
    (q_InvalidCommand : PySem.W.excIn K CInvalidCommand [.type "ValueError", .type "Exception", .type "BaseException", .type "object"] "ValueError.__new__" = true)
    (s_InvalidCommand_InvalidSpans : PySem.W.subIn K (.ref CInvalidCommand) (.ref CInvalidSpans) = some false)
    (s_InvalidCommand_InvalidNodes : PySem.W.subIn K (.ref CInvalidCommand) (.ref CInvalidNodes) = some false)
    (s_InvalidCommand_InvalidBounds : PySem.W.subIn K (.ref CInvalidCommand) (.ref CInvalidBounds) = some false)
    (s_InvalidCommand_InvalidText : PySem.W.subIn K (.ref CInvalidCommand) (.ref CInvalidText) = some false)
    (s_InvalidCommand_OverBudget : PySem.W.subIn K (.ref CInvalidCommand) (.ref COverBudget) = some false)
    (s_InvalidCommand_InvalidSize : PySem.W.subIn K (.ref CInvalidCommand) (.ref CInvalidSize) = some false)
    (s_InvalidCommand_InvalidEntry : PySem.W.subIn K (.ref CInvalidCommand) (.ref CInvalidEntry) = some false)
    (s_InvalidCommand_InvalidNode : PySem.W.subIn K (.ref CInvalidCommand) (.ref CInvalidNode) = some false)
    (s_InvalidCommand_InvalidSpan : PySem.W.subIn K (.ref CInvalidCommand) (.ref CInvalidSpan) = some false)
    (s_InvalidCommand_InvalidNumber : PySem.W.subIn K (.ref CInvalidCommand) (.ref CInvalidNumber) = some false)
    (s_InvalidCommand_InvalidHeight : PySem.W.subIn K (.ref CInvalidCommand) (.ref CInvalidHeight) = some false)
    (s_InvalidCommand_InvalidBudget : PySem.W.subIn K (.ref CInvalidCommand) (.ref CInvalidBudget) = some false)
    (s_InvalidCommand_InvalidOperation : PySem.W.subIn K (.ref CInvalidCommand) (.ref CInvalidOperation) = some false)
    (s_InvalidCommand_Nothing : PySem.W.subIn K (.ref CInvalidCommand) (.ref CNothing) = some false)
    (s_InvalidCommand_InvalidCommand : PySem.W.subIn K (.ref CInvalidCommand) (.ref CInvalidCommand) = some true)
    (k_LogError : PySem.W.keepIn K (.ref CLogError) = true)
    (b_LogError : PySem.W.subIn K (.ref CLogError) (.type "BaseException") = some true)
    (g_LogError : PySem.W.findIn K (.ref CLogError) "__getattribute__" = some (some (.builtin "BaseException.__getattribute__")))
    (a_LogError : PySem.W.findIn K (.ref CLogError) "__getattr__" = some none)
    (d_LogError : PySem.W.hasDictIn K CLogError = true)
    (c_LogError : PySem.W.findIn K (.ref CLogError) "__class__" = some (some (.builtin "object.__class__")))
    (m_LogError : PySem.W.mroIn K CLogError (.type "object") = some true)
    (v_LogError : PySem.W.subIn K (.ref CLogError) (.type "ValueError") = some true)
    (l_LogError : PySem.W.subIn K (.ref CLogError) (.ref CLogError) = some true)
    (q_LogError : PySem.W.excIn K CLogError [.type "ValueError", .type "Exception", .type "BaseException", .type "object"] "ValueError.__new__" = true)
    (s_LogError_InvalidSpans : PySem.W.subIn K (.ref CLogError) (.ref CInvalidSpans) = some false)
    (s_LogError_InvalidNodes : PySem.W.subIn K (.ref CLogError) (.ref CInvalidNodes) = some false)
    (s_LogError_InvalidBounds : PySem.W.subIn K (.ref CLogError) (.ref CInvalidBounds) = some false)
    (s_LogError_InvalidText : PySem.W.subIn K (.ref CLogError) (.ref CInvalidText) = some false)
    (s_LogError_OverBudget : PySem.W.subIn K (.ref CLogError) (.ref COverBudget) = some false)
    (s_LogError_InvalidSize : PySem.W.subIn K (.ref CLogError) (.ref CInvalidSize) = some false)
    (s_LogError_InvalidEntry : PySem.W.subIn K (.ref CLogError) (.ref CInvalidEntry) = some false)
    (s_LogError_InvalidNode : PySem.W.subIn K (.ref CLogError) (.ref CInvalidNode) = some false)
    (s_LogError_InvalidSpan : PySem.W.subIn K (.ref CLogError) (.ref CInvalidSpan) = some false)
    (s_LogError_InvalidNumber : PySem.W.subIn K (.ref CLogError) (.ref CInvalidNumber) = some false)
    (s_LogError_InvalidHeight : PySem.W.subIn K (.ref CLogError) (.ref CInvalidHeight) = some false)
    (s_LogError_InvalidBudget : PySem.W.subIn K (.ref CLogError) (.ref CInvalidBudget) = some false)
    (s_LogError_InvalidOperation : PySem.W.subIn K (.ref CLogError) (.ref CInvalidOperation) = some false)
    (s_LogError_Nothing : PySem.W.subIn K (.ref CLogError) (.ref CNothing) = some false)
    (s_LogError_InvalidCommand : PySem.W.subIn K (.ref CLogError) (.ref CInvalidCommand) = some false)
    (x_n : PySem.W.specialIn K (.builtin "object.__class__") "__get__" = some (some (.builtin "getset_descriptor.__get__")))
    (x_t : PySem.W.takesIn K (.builtin "object.__class__") = some true)
    (x_o : PySem.W.nsIn K cStatics "thirdparty.any" = some none)
    (x_s : PySem.W.nsIn K mainGlobals "super" = some none)
    (x_p : (l.prog.main.scope.names.lookup ("super" : Str)).isSome = false)
    (o_InvalidSpans : ∃ nm q N bs bm sn sub ab col dd k0 k1 k2 k3 k5, K.lookup CInvalidSpans = some (excClassObj nm q CInvalidSpans N bs bm true sn sub ab col dd k0 k1 k2 k3 k5 "ValueError.__new__") ∧ PySem.HandSPX.refsVE bm = true)
    (e_InvalidSpans : PySem.W.findIn K (.ref CInvalidSpans) "__setattr__" = some (some (.builtin "object.__setattr__")))
    (f_InvalidSpans : PySem.W.findIn K (.ref CInvalidSpans) "item" = some none)
    (u_InvalidSpans : PySem.W.ks_superIn K CInvalidSpans CInvalidSpans "__init__" = some (some (.builtin "ValueError.__init__")))
    (w_InvalidSpans : PySem.W.mroIn K CInvalidSpans (.ref CInvalidSpans) = some true)
    (j_InvalidSpans : InitK l.prog K CInvalidSpans sIInvalidSpans "InvalidSpans.__init__")
    (o_InvalidNodes : ∃ nm q N bs bm sn sub ab col dd k0 k1 k2 k3 k5, K.lookup CInvalidNodes = some (excClassObj nm q CInvalidNodes N bs bm true sn sub ab col dd k0 k1 k2 k3 k5 "ValueError.__new__") ∧ PySem.HandSPX.refsVE bm = true)
    (e_InvalidNodes : PySem.W.findIn K (.ref CInvalidNodes) "__setattr__" = some (some (.builtin "object.__setattr__")))
    (f_InvalidNodes : PySem.W.findIn K (.ref CInvalidNodes) "item" = some none)
    (u_InvalidNodes : PySem.W.ks_superIn K CInvalidNodes CInvalidNodes "__init__" = some (some (.builtin "ValueError.__init__")))
    (w_InvalidNodes : PySem.W.mroIn K CInvalidNodes (.ref CInvalidNodes) = some true)
    (j_InvalidNodes : InitK l.prog K CInvalidNodes sIInvalidNodes "InvalidNodes.__init__")
    (o_InvalidBounds : ∃ nm q N bs bm sn sub ab col dd k0 k1 k2 k3 k5, K.lookup CInvalidBounds = some (excClassObj nm q CInvalidBounds N bs bm true sn sub ab col dd k0 k1 k2 k3 k5 "ValueError.__new__") ∧ PySem.HandSPX.refsVE bm = true)
    (e_InvalidBounds : PySem.W.findIn K (.ref CInvalidBounds) "__setattr__" = some (some (.builtin "object.__setattr__")))
    (f_InvalidBounds : PySem.W.findIn K (.ref CInvalidBounds) "item" = some none)
    (u_InvalidBounds : PySem.W.ks_superIn K CInvalidBounds CInvalidBounds "__init__" = some (some (.builtin "ValueError.__init__")))
    (w_InvalidBounds : PySem.W.mroIn K CInvalidBounds (.ref CInvalidBounds) = some true)
    (j_InvalidBounds : InitK l.prog K CInvalidBounds sIInvalidBounds "InvalidBounds.__init__")
    (o_InvalidText : ∃ nm q N bs bm sn sub ab col dd k0 k1 k2 k3 k5, K.lookup CInvalidText = some (excClassObj nm q CInvalidText N bs bm true sn sub ab col dd k0 k1 k2 k3 k5 "ValueError.__new__") ∧ PySem.HandSPX.refsVE bm = true)
    (e_InvalidText : PySem.W.findIn K (.ref CInvalidText) "__setattr__" = some (some (.builtin "object.__setattr__")))
    (f_InvalidText : PySem.W.findIn K (.ref CInvalidText) "part" = some none)
    (u_InvalidText : PySem.W.ks_superIn K CInvalidText CInvalidText "__init__" = some (some (.builtin "ValueError.__init__")))
    (w_InvalidText : PySem.W.mroIn K CInvalidText (.ref CInvalidText) = some true)
    (j_InvalidText : InitK l.prog K CInvalidText sIInvalidText "InvalidText.__init__")
    (o_OverBudget : ∃ nm q N bs bm sn sub ab col dd k0 k1 k2 k3 k5, K.lookup COverBudget = some (excClassObj nm q COverBudget N bs bm true sn sub ab col dd k0 k1 k2 k3 k5 "ValueError.__new__") ∧ PySem.HandSPX.refsVE bm = true)
    (e_OverBudget : PySem.W.findIn K (.ref COverBudget) "__setattr__" = some (some (.builtin "object.__setattr__")))
    (f_OverBudget : PySem.W.findIn K (.ref COverBudget) "count" = some none)
    (u_OverBudget : PySem.W.ks_superIn K COverBudget COverBudget "__init__" = some (some (.builtin "ValueError.__init__")))
    (w_OverBudget : PySem.W.mroIn K COverBudget (.ref COverBudget) = some true)
    (j_OverBudget : InitK l.prog K COverBudget sIOverBudget "OverBudget.__init__")
    : ∃ fd : FuncData, (∀ (s : Shared) (v : Value), BindsTo s fd ⟨[v], []⟩ [("script", v)]) ∧ ∀ base : Heap, K.In base → base.Ns mainGlobals mg → FnOk l.prog w K mg base CX0 4 fa fd ["script"] (spLaw K) := by
  have e := hfa.symm.trans (PySem.W.mg_of X G a4)
  cases e
  have FLawBag := fun_mk (st := sLawBag) l0 c0 k0
  have FLawPick := fun_mk (st := sLawPick) l1 c1 k1
  have FLawMade := fun_mk (st := sLawMade) l2 c2 k2
  have FLawClasses := fun_mk (st := sLawClasses) l3 c3 k3
  have FLaw := fun_mk (st := sLaw) l4 c4 k4
  have ALawBag : At K mg "_law_bag" f0 (PySem.W.fnOf "_law_bag" "_law_bag" (defArgs sLawBag) (defBody sLawBag) (defScope sLawBag) .none kV0 dc0 pm0 an0 cd0 ct0) ["cell"] := ⟨PySem.W.mg_of X G a0, k0, FLawBag.binds (ps := ["cell"]) fun _ _ _ _ _ _ us hl => match us, hl with | [_], _ => rfl⟩
  have ALawPick : At K mg "_law_pick" f1 (PySem.W.fnOf "_law_pick" "_law_pick" (defArgs sLawPick) (defBody sLawPick) (defScope sLawPick) .none kV1 dc1 pm1 an1 cd1 ct1) ["bag", "many"] := ⟨PySem.W.mg_of X G a1, k1, FLawPick.binds (ps := ["bag", "many"]) fun _ _ _ _ _ _ us hl => match us, hl with | [_, _], _ => rfl⟩
  have ALawMade : At K mg "_law_made" f2 (PySem.W.fnOf "_law_made" "_law_made" (defArgs sLawMade) (defBody sLawMade) (defScope sLawMade) .none kV2 dc2 pm2 an2 cd2 ct2) ["number"] := ⟨PySem.W.mg_of X G a2, k2, FLawMade.binds (ps := ["number"]) fun _ _ _ _ _ _ us hl => match us, hl with | [_], _ => rfl⟩
  have ALawClasses : At K mg "_law_classes" f3 (PySem.W.fnOf "_law_classes" "_law_classes" (defArgs sLawClasses) (defBody sLawClasses) (defScope sLawClasses) .none kV3 dc3 pm3 an3 cd3 ct3) ["one"] := ⟨PySem.W.mg_of X G a3, k3, FLawClasses.binds (ps := ["one"]) fun _ _ _ _ _ _ us hl => match us, hl with | [_], _ => rfl⟩
  have z_ValueError := PySem.W.mg_none_of X G z_ValueError
  have z_enumerate := PySem.W.mg_none_of X G z_enumerate
  have z_int := PySem.W.mg_none_of X G z_int
  have z_isinstance := PySem.W.mg_none_of X G z_isinstance
  have z_len := PySem.W.mg_none_of X G z_len
  have z_max := PySem.W.mg_none_of X G z_max
  have z_range := PySem.W.mg_none_of X G z_range
  refine ⟨PySem.W.fnOf "law" "law" (defArgs sLaw) (defBody sLaw) (defScope sLaw) .none kV4 dc4 pm4 an4 cd4 ct4, fun s v => .of_eq rfl, fun base _ _ => ?_⟩
  have GInvalidSpans : GF mg "InvalidSpans" CInvalidSpans := ⟨PySem.W.mg_of X G n_InvalidSpans⟩
  have GInvalidNodes : GF mg "InvalidNodes" CInvalidNodes := ⟨PySem.W.mg_of X G n_InvalidNodes⟩
  have GInvalidBounds : GF mg "InvalidBounds" CInvalidBounds := ⟨PySem.W.mg_of X G n_InvalidBounds⟩
  have GInvalidText : GF mg "InvalidText" CInvalidText := ⟨PySem.W.mg_of X G n_InvalidText⟩
  have GOverBudget : GF mg "OverBudget" COverBudget := ⟨PySem.W.mg_of X G n_OverBudget⟩
  have GInvalidSize : GF mg "InvalidSize" CInvalidSize := ⟨PySem.W.mg_of X G n_InvalidSize⟩
  have GInvalidEntry : GF mg "InvalidEntry" CInvalidEntry := ⟨PySem.W.mg_of X G n_InvalidEntry⟩
  have GInvalidNode : GF mg "InvalidNode" CInvalidNode := ⟨PySem.W.mg_of X G n_InvalidNode⟩
  have GInvalidSpan : GF mg "InvalidSpan" CInvalidSpan := ⟨PySem.W.mg_of X G n_InvalidSpan⟩
  have GInvalidNumber : GF mg "InvalidNumber" CInvalidNumber := ⟨PySem.W.mg_of X G n_InvalidNumber⟩
  have GInvalidHeight : GF mg "InvalidHeight" CInvalidHeight := ⟨PySem.W.mg_of X G n_InvalidHeight⟩
  have GInvalidBudget : GF mg "InvalidBudget" CInvalidBudget := ⟨PySem.W.mg_of X G n_InvalidBudget⟩
  have GInvalidOperation : GF mg "InvalidOperation" CInvalidOperation := ⟨PySem.W.mg_of X G n_InvalidOperation⟩
  have GNothing : GF mg "Nothing" CNothing := ⟨PySem.W.mg_of X G n_Nothing⟩
  have GInvalidCommand : GF mg "InvalidCommand" CInvalidCommand := ⟨PySem.W.mg_of X G n_InvalidCommand⟩
  have GLogError : GF mg "LogError" CLogError := ⟨PySem.W.mg_of X G n_LogError⟩
  have EInvalidSpans : ExcC K CInvalidSpans := ⟨g_InvalidSpans, a_InvalidSpans, b_InvalidSpans, d_InvalidSpans, c_InvalidSpans, x_n, x_t, m_InvalidSpans⟩
  have EInvalidNodes : ExcC K CInvalidNodes := ⟨g_InvalidNodes, a_InvalidNodes, b_InvalidNodes, d_InvalidNodes, c_InvalidNodes, x_n, x_t, m_InvalidNodes⟩
  have EInvalidBounds : ExcC K CInvalidBounds := ⟨g_InvalidBounds, a_InvalidBounds, b_InvalidBounds, d_InvalidBounds, c_InvalidBounds, x_n, x_t, m_InvalidBounds⟩
  have EInvalidText : ExcC K CInvalidText := ⟨g_InvalidText, a_InvalidText, b_InvalidText, d_InvalidText, c_InvalidText, x_n, x_t, m_InvalidText⟩
  have EOverBudget : ExcC K COverBudget := ⟨g_OverBudget, a_OverBudget, b_OverBudget, d_OverBudget, c_OverBudget, x_n, x_t, m_OverBudget⟩
  have XInvalidSize : XF K mg "InvalidSize" CInvalidSize := ⟨PySem.W.mg_of X G n_InvalidSize, k_InvalidSize, q_InvalidSize, b_InvalidSize, t_InvalidSize⟩
  have EInvalidSize : ExcC K CInvalidSize := ⟨g_InvalidSize, a_InvalidSize, b_InvalidSize, d_InvalidSize, c_InvalidSize, x_n, x_t, m_InvalidSize⟩
  have XInvalidEntry : XF K mg "InvalidEntry" CInvalidEntry := ⟨PySem.W.mg_of X G n_InvalidEntry, k_InvalidEntry, q_InvalidEntry, b_InvalidEntry, t_InvalidEntry⟩
  have EInvalidEntry : ExcC K CInvalidEntry := ⟨g_InvalidEntry, a_InvalidEntry, b_InvalidEntry, d_InvalidEntry, c_InvalidEntry, x_n, x_t, m_InvalidEntry⟩
  have XInvalidNode : XF K mg "InvalidNode" CInvalidNode := ⟨PySem.W.mg_of X G n_InvalidNode, k_InvalidNode, q_InvalidNode, b_InvalidNode, t_InvalidNode⟩
  have EInvalidNode : ExcC K CInvalidNode := ⟨g_InvalidNode, a_InvalidNode, b_InvalidNode, d_InvalidNode, c_InvalidNode, x_n, x_t, m_InvalidNode⟩
  have XInvalidSpan : XF K mg "InvalidSpan" CInvalidSpan := ⟨PySem.W.mg_of X G n_InvalidSpan, k_InvalidSpan, q_InvalidSpan, b_InvalidSpan, t_InvalidSpan⟩
  have EInvalidSpan : ExcC K CInvalidSpan := ⟨g_InvalidSpan, a_InvalidSpan, b_InvalidSpan, d_InvalidSpan, c_InvalidSpan, x_n, x_t, m_InvalidSpan⟩
  have XInvalidNumber : XF K mg "InvalidNumber" CInvalidNumber := ⟨PySem.W.mg_of X G n_InvalidNumber, k_InvalidNumber, q_InvalidNumber, b_InvalidNumber, t_InvalidNumber⟩
  have EInvalidNumber : ExcC K CInvalidNumber := ⟨g_InvalidNumber, a_InvalidNumber, b_InvalidNumber, d_InvalidNumber, c_InvalidNumber, x_n, x_t, m_InvalidNumber⟩
  have XInvalidHeight : XF K mg "InvalidHeight" CInvalidHeight := ⟨PySem.W.mg_of X G n_InvalidHeight, k_InvalidHeight, q_InvalidHeight, b_InvalidHeight, t_InvalidHeight⟩
  have EInvalidHeight : ExcC K CInvalidHeight := ⟨g_InvalidHeight, a_InvalidHeight, b_InvalidHeight, d_InvalidHeight, c_InvalidHeight, x_n, x_t, m_InvalidHeight⟩
  have XInvalidBudget : XF K mg "InvalidBudget" CInvalidBudget := ⟨PySem.W.mg_of X G n_InvalidBudget, k_InvalidBudget, q_InvalidBudget, b_InvalidBudget, t_InvalidBudget⟩
  have EInvalidBudget : ExcC K CInvalidBudget := ⟨g_InvalidBudget, a_InvalidBudget, b_InvalidBudget, d_InvalidBudget, c_InvalidBudget, x_n, x_t, m_InvalidBudget⟩
  have XInvalidOperation : XF K mg "InvalidOperation" CInvalidOperation := ⟨PySem.W.mg_of X G n_InvalidOperation, k_InvalidOperation, q_InvalidOperation, b_InvalidOperation, t_InvalidOperation⟩
  have EInvalidOperation : ExcC K CInvalidOperation := ⟨g_InvalidOperation, a_InvalidOperation, b_InvalidOperation, d_InvalidOperation, c_InvalidOperation, x_n, x_t, m_InvalidOperation⟩
  have XNothing : XF K mg "Nothing" CNothing := ⟨PySem.W.mg_of X G n_Nothing, k_Nothing, q_Nothing, b_Nothing, t_Nothing⟩
  have ENothing : ExcC K CNothing := ⟨g_Nothing, a_Nothing, b_Nothing, d_Nothing, c_Nothing, x_n, x_t, m_Nothing⟩
  have XInvalidCommand : XF K mg "InvalidCommand" CInvalidCommand := ⟨PySem.W.mg_of X G n_InvalidCommand, k_InvalidCommand, q_InvalidCommand, b_InvalidCommand, t_InvalidCommand⟩
  have EInvalidCommand : ExcC K CInvalidCommand := ⟨g_InvalidCommand, a_InvalidCommand, b_InvalidCommand, d_InvalidCommand, c_InvalidCommand, x_n, x_t, m_InvalidCommand⟩
  have XLogError : XF K mg "LogError" CLogError := ⟨PySem.W.mg_of X G n_LogError, k_LogError, q_LogError, b_LogError, t_LogError⟩
  have ELogError : ExcC K CLogError := ⟨g_LogError, a_LogError, b_LogError, d_LogError, c_LogError, x_n, x_t, m_LogError⟩
  have OInvalidSpans : OexC K CInvalidSpans := ⟨o_InvalidSpans, e_InvalidSpans, b_InvalidSpans, t_InvalidSpans, k_InvalidSpans⟩
  have UInvalidSpans : SupK l.prog K mg CInvalidSpans "item" := ⟨OInvalidSpans, f_InvalidSpans, u_InvalidSpans, v_InvalidSpans, w_InvalidSpans, x_o, x_p, PySem.W.mg_none_of X G x_s⟩
  have XInvalidSpans : SX l.prog w K mg base "InvalidSpans" CInvalidSpans "item" := sxInvalidSpans (PySem.W.mg_of X G n_InvalidSpans) UInvalidSpans j_InvalidSpans
  have OInvalidNodes : OexC K CInvalidNodes := ⟨o_InvalidNodes, e_InvalidNodes, b_InvalidNodes, t_InvalidNodes, k_InvalidNodes⟩
  have UInvalidNodes : SupK l.prog K mg CInvalidNodes "item" := ⟨OInvalidNodes, f_InvalidNodes, u_InvalidNodes, v_InvalidNodes, w_InvalidNodes, x_o, x_p, PySem.W.mg_none_of X G x_s⟩
  have XInvalidNodes : SX l.prog w K mg base "InvalidNodes" CInvalidNodes "item" := sxInvalidNodes (PySem.W.mg_of X G n_InvalidNodes) UInvalidNodes j_InvalidNodes
  have OInvalidBounds : OexC K CInvalidBounds := ⟨o_InvalidBounds, e_InvalidBounds, b_InvalidBounds, t_InvalidBounds, k_InvalidBounds⟩
  have UInvalidBounds : SupK l.prog K mg CInvalidBounds "item" := ⟨OInvalidBounds, f_InvalidBounds, u_InvalidBounds, v_InvalidBounds, w_InvalidBounds, x_o, x_p, PySem.W.mg_none_of X G x_s⟩
  have XInvalidBounds : SX l.prog w K mg base "InvalidBounds" CInvalidBounds "item" := sxInvalidBounds (PySem.W.mg_of X G n_InvalidBounds) UInvalidBounds j_InvalidBounds
  have OInvalidText : OexC K CInvalidText := ⟨o_InvalidText, e_InvalidText, b_InvalidText, t_InvalidText, k_InvalidText⟩
  have UInvalidText : SupK l.prog K mg CInvalidText "part" := ⟨OInvalidText, f_InvalidText, u_InvalidText, v_InvalidText, w_InvalidText, x_o, x_p, PySem.W.mg_none_of X G x_s⟩
  have XInvalidText : SX l.prog w K mg base "InvalidText" CInvalidText "part" := sxInvalidText (PySem.W.mg_of X G n_InvalidText) UInvalidText j_InvalidText
  have OOverBudget : OexC K COverBudget := ⟨o_OverBudget, e_OverBudget, b_OverBudget, t_OverBudget, k_OverBudget⟩
  have UOverBudget : SupK l.prog K mg COverBudget "count" := ⟨OOverBudget, f_OverBudget, u_OverBudget, v_OverBudget, w_OverBudget, x_o, x_p, PySem.W.mg_none_of X G x_s⟩
  have XOverBudget : SX l.prog w K mg base "OverBudget" COverBudget "count" := sxOverBudget (PySem.W.mg_of X G n_OverBudget) UOverBudget j_OverBudget
  have VInvalidSpans : CV K [CInvalidSpans, CInvalidNodes, CInvalidBounds, CInvalidText, COverBudget, CInvalidSize, CInvalidEntry, CInvalidNode, CInvalidSpan, CInvalidNumber, CInvalidHeight, CInvalidBudget, CInvalidOperation, CNothing, CInvalidCommand] CLogError CInvalidSpans (row 0) := ⟨EInvalidSpans, ⟨kit_of i_InvalidSpans t_InvalidSpans s_InvalidSpans_InvalidSpans s_InvalidSpans_InvalidSpans, kit_of i_InvalidNodes t_InvalidNodes s_InvalidSpans_InvalidNodes s_InvalidSpans_InvalidSpans, kit_of i_InvalidBounds t_InvalidBounds s_InvalidSpans_InvalidBounds s_InvalidSpans_InvalidSpans, kit_of i_InvalidText t_InvalidText s_InvalidSpans_InvalidText s_InvalidSpans_InvalidSpans, kit_of i_OverBudget t_OverBudget s_InvalidSpans_OverBudget s_InvalidSpans_InvalidSpans, kit_of i_InvalidSize t_InvalidSize s_InvalidSpans_InvalidSize s_InvalidSpans_InvalidSpans, kit_of i_InvalidEntry t_InvalidEntry s_InvalidSpans_InvalidEntry s_InvalidSpans_InvalidSpans, kit_of i_InvalidNode t_InvalidNode s_InvalidSpans_InvalidNode s_InvalidSpans_InvalidSpans, kit_of i_InvalidSpan t_InvalidSpan s_InvalidSpans_InvalidSpan s_InvalidSpans_InvalidSpans, kit_of i_InvalidNumber t_InvalidNumber s_InvalidSpans_InvalidNumber s_InvalidSpans_InvalidSpans, kit_of i_InvalidHeight t_InvalidHeight s_InvalidSpans_InvalidHeight s_InvalidSpans_InvalidSpans, kit_of i_InvalidBudget t_InvalidBudget s_InvalidSpans_InvalidBudget s_InvalidSpans_InvalidSpans, kit_of i_InvalidOperation t_InvalidOperation s_InvalidSpans_InvalidOperation s_InvalidSpans_InvalidSpans, kit_of i_Nothing t_Nothing s_InvalidSpans_Nothing s_InvalidSpans_InvalidSpans, kit_of i_InvalidCommand t_InvalidCommand s_InvalidSpans_InvalidCommand s_InvalidSpans_InvalidSpans, trivial⟩, kit_of i_LogError t_LogError l_InvalidSpans s_InvalidSpans_InvalidSpans, kit_ty0 (by decide) v_InvalidSpans⟩
  have VInvalidNodes : CV K [CInvalidSpans, CInvalidNodes, CInvalidBounds, CInvalidText, COverBudget, CInvalidSize, CInvalidEntry, CInvalidNode, CInvalidSpan, CInvalidNumber, CInvalidHeight, CInvalidBudget, CInvalidOperation, CNothing, CInvalidCommand] CLogError CInvalidNodes (row 1) := ⟨EInvalidNodes, ⟨kit_of i_InvalidSpans t_InvalidSpans s_InvalidNodes_InvalidSpans s_InvalidNodes_InvalidNodes, kit_of i_InvalidNodes t_InvalidNodes s_InvalidNodes_InvalidNodes s_InvalidNodes_InvalidNodes, kit_of i_InvalidBounds t_InvalidBounds s_InvalidNodes_InvalidBounds s_InvalidNodes_InvalidNodes, kit_of i_InvalidText t_InvalidText s_InvalidNodes_InvalidText s_InvalidNodes_InvalidNodes, kit_of i_OverBudget t_OverBudget s_InvalidNodes_OverBudget s_InvalidNodes_InvalidNodes, kit_of i_InvalidSize t_InvalidSize s_InvalidNodes_InvalidSize s_InvalidNodes_InvalidNodes, kit_of i_InvalidEntry t_InvalidEntry s_InvalidNodes_InvalidEntry s_InvalidNodes_InvalidNodes, kit_of i_InvalidNode t_InvalidNode s_InvalidNodes_InvalidNode s_InvalidNodes_InvalidNodes, kit_of i_InvalidSpan t_InvalidSpan s_InvalidNodes_InvalidSpan s_InvalidNodes_InvalidNodes, kit_of i_InvalidNumber t_InvalidNumber s_InvalidNodes_InvalidNumber s_InvalidNodes_InvalidNodes, kit_of i_InvalidHeight t_InvalidHeight s_InvalidNodes_InvalidHeight s_InvalidNodes_InvalidNodes, kit_of i_InvalidBudget t_InvalidBudget s_InvalidNodes_InvalidBudget s_InvalidNodes_InvalidNodes, kit_of i_InvalidOperation t_InvalidOperation s_InvalidNodes_InvalidOperation s_InvalidNodes_InvalidNodes, kit_of i_Nothing t_Nothing s_InvalidNodes_Nothing s_InvalidNodes_InvalidNodes, kit_of i_InvalidCommand t_InvalidCommand s_InvalidNodes_InvalidCommand s_InvalidNodes_InvalidNodes, trivial⟩, kit_of i_LogError t_LogError l_InvalidNodes s_InvalidNodes_InvalidNodes, kit_ty0 (by decide) v_InvalidNodes⟩
  have VInvalidBounds : CV K [CInvalidSpans, CInvalidNodes, CInvalidBounds, CInvalidText, COverBudget, CInvalidSize, CInvalidEntry, CInvalidNode, CInvalidSpan, CInvalidNumber, CInvalidHeight, CInvalidBudget, CInvalidOperation, CNothing, CInvalidCommand] CLogError CInvalidBounds (row 2) := ⟨EInvalidBounds, ⟨kit_of i_InvalidSpans t_InvalidSpans s_InvalidBounds_InvalidSpans s_InvalidBounds_InvalidBounds, kit_of i_InvalidNodes t_InvalidNodes s_InvalidBounds_InvalidNodes s_InvalidBounds_InvalidBounds, kit_of i_InvalidBounds t_InvalidBounds s_InvalidBounds_InvalidBounds s_InvalidBounds_InvalidBounds, kit_of i_InvalidText t_InvalidText s_InvalidBounds_InvalidText s_InvalidBounds_InvalidBounds, kit_of i_OverBudget t_OverBudget s_InvalidBounds_OverBudget s_InvalidBounds_InvalidBounds, kit_of i_InvalidSize t_InvalidSize s_InvalidBounds_InvalidSize s_InvalidBounds_InvalidBounds, kit_of i_InvalidEntry t_InvalidEntry s_InvalidBounds_InvalidEntry s_InvalidBounds_InvalidBounds, kit_of i_InvalidNode t_InvalidNode s_InvalidBounds_InvalidNode s_InvalidBounds_InvalidBounds, kit_of i_InvalidSpan t_InvalidSpan s_InvalidBounds_InvalidSpan s_InvalidBounds_InvalidBounds, kit_of i_InvalidNumber t_InvalidNumber s_InvalidBounds_InvalidNumber s_InvalidBounds_InvalidBounds, kit_of i_InvalidHeight t_InvalidHeight s_InvalidBounds_InvalidHeight s_InvalidBounds_InvalidBounds, kit_of i_InvalidBudget t_InvalidBudget s_InvalidBounds_InvalidBudget s_InvalidBounds_InvalidBounds, kit_of i_InvalidOperation t_InvalidOperation s_InvalidBounds_InvalidOperation s_InvalidBounds_InvalidBounds, kit_of i_Nothing t_Nothing s_InvalidBounds_Nothing s_InvalidBounds_InvalidBounds, kit_of i_InvalidCommand t_InvalidCommand s_InvalidBounds_InvalidCommand s_InvalidBounds_InvalidBounds, trivial⟩, kit_of i_LogError t_LogError l_InvalidBounds s_InvalidBounds_InvalidBounds, kit_ty0 (by decide) v_InvalidBounds⟩
  have VInvalidText : CV K [CInvalidSpans, CInvalidNodes, CInvalidBounds, CInvalidText, COverBudget, CInvalidSize, CInvalidEntry, CInvalidNode, CInvalidSpan, CInvalidNumber, CInvalidHeight, CInvalidBudget, CInvalidOperation, CNothing, CInvalidCommand] CLogError CInvalidText (row 3) := ⟨EInvalidText, ⟨kit_of i_InvalidSpans t_InvalidSpans s_InvalidText_InvalidSpans s_InvalidText_InvalidText, kit_of i_InvalidNodes t_InvalidNodes s_InvalidText_InvalidNodes s_InvalidText_InvalidText, kit_of i_InvalidBounds t_InvalidBounds s_InvalidText_InvalidBounds s_InvalidText_InvalidText, kit_of i_InvalidText t_InvalidText s_InvalidText_InvalidText s_InvalidText_InvalidText, kit_of i_OverBudget t_OverBudget s_InvalidText_OverBudget s_InvalidText_InvalidText, kit_of i_InvalidSize t_InvalidSize s_InvalidText_InvalidSize s_InvalidText_InvalidText, kit_of i_InvalidEntry t_InvalidEntry s_InvalidText_InvalidEntry s_InvalidText_InvalidText, kit_of i_InvalidNode t_InvalidNode s_InvalidText_InvalidNode s_InvalidText_InvalidText, kit_of i_InvalidSpan t_InvalidSpan s_InvalidText_InvalidSpan s_InvalidText_InvalidText, kit_of i_InvalidNumber t_InvalidNumber s_InvalidText_InvalidNumber s_InvalidText_InvalidText, kit_of i_InvalidHeight t_InvalidHeight s_InvalidText_InvalidHeight s_InvalidText_InvalidText, kit_of i_InvalidBudget t_InvalidBudget s_InvalidText_InvalidBudget s_InvalidText_InvalidText, kit_of i_InvalidOperation t_InvalidOperation s_InvalidText_InvalidOperation s_InvalidText_InvalidText, kit_of i_Nothing t_Nothing s_InvalidText_Nothing s_InvalidText_InvalidText, kit_of i_InvalidCommand t_InvalidCommand s_InvalidText_InvalidCommand s_InvalidText_InvalidText, trivial⟩, kit_of i_LogError t_LogError l_InvalidText s_InvalidText_InvalidText, kit_ty0 (by decide) v_InvalidText⟩
  have VOverBudget : CV K [CInvalidSpans, CInvalidNodes, CInvalidBounds, CInvalidText, COverBudget, CInvalidSize, CInvalidEntry, CInvalidNode, CInvalidSpan, CInvalidNumber, CInvalidHeight, CInvalidBudget, CInvalidOperation, CNothing, CInvalidCommand] CLogError COverBudget (row 4) := ⟨EOverBudget, ⟨kit_of i_InvalidSpans t_InvalidSpans s_OverBudget_InvalidSpans s_OverBudget_OverBudget, kit_of i_InvalidNodes t_InvalidNodes s_OverBudget_InvalidNodes s_OverBudget_OverBudget, kit_of i_InvalidBounds t_InvalidBounds s_OverBudget_InvalidBounds s_OverBudget_OverBudget, kit_of i_InvalidText t_InvalidText s_OverBudget_InvalidText s_OverBudget_OverBudget, kit_of i_OverBudget t_OverBudget s_OverBudget_OverBudget s_OverBudget_OverBudget, kit_of i_InvalidSize t_InvalidSize s_OverBudget_InvalidSize s_OverBudget_OverBudget, kit_of i_InvalidEntry t_InvalidEntry s_OverBudget_InvalidEntry s_OverBudget_OverBudget, kit_of i_InvalidNode t_InvalidNode s_OverBudget_InvalidNode s_OverBudget_OverBudget, kit_of i_InvalidSpan t_InvalidSpan s_OverBudget_InvalidSpan s_OverBudget_OverBudget, kit_of i_InvalidNumber t_InvalidNumber s_OverBudget_InvalidNumber s_OverBudget_OverBudget, kit_of i_InvalidHeight t_InvalidHeight s_OverBudget_InvalidHeight s_OverBudget_OverBudget, kit_of i_InvalidBudget t_InvalidBudget s_OverBudget_InvalidBudget s_OverBudget_OverBudget, kit_of i_InvalidOperation t_InvalidOperation s_OverBudget_InvalidOperation s_OverBudget_OverBudget, kit_of i_Nothing t_Nothing s_OverBudget_Nothing s_OverBudget_OverBudget, kit_of i_InvalidCommand t_InvalidCommand s_OverBudget_InvalidCommand s_OverBudget_OverBudget, trivial⟩, kit_of i_LogError t_LogError l_OverBudget s_OverBudget_OverBudget, kit_ty0 (by decide) v_OverBudget⟩
  have VInvalidSize : CV K [CInvalidSpans, CInvalidNodes, CInvalidBounds, CInvalidText, COverBudget, CInvalidSize, CInvalidEntry, CInvalidNode, CInvalidSpan, CInvalidNumber, CInvalidHeight, CInvalidBudget, CInvalidOperation, CNothing, CInvalidCommand] CLogError CInvalidSize (row 5) := ⟨EInvalidSize, ⟨kit_of i_InvalidSpans t_InvalidSpans s_InvalidSize_InvalidSpans s_InvalidSize_InvalidSize, kit_of i_InvalidNodes t_InvalidNodes s_InvalidSize_InvalidNodes s_InvalidSize_InvalidSize, kit_of i_InvalidBounds t_InvalidBounds s_InvalidSize_InvalidBounds s_InvalidSize_InvalidSize, kit_of i_InvalidText t_InvalidText s_InvalidSize_InvalidText s_InvalidSize_InvalidSize, kit_of i_OverBudget t_OverBudget s_InvalidSize_OverBudget s_InvalidSize_InvalidSize, kit_of i_InvalidSize t_InvalidSize s_InvalidSize_InvalidSize s_InvalidSize_InvalidSize, kit_of i_InvalidEntry t_InvalidEntry s_InvalidSize_InvalidEntry s_InvalidSize_InvalidSize, kit_of i_InvalidNode t_InvalidNode s_InvalidSize_InvalidNode s_InvalidSize_InvalidSize, kit_of i_InvalidSpan t_InvalidSpan s_InvalidSize_InvalidSpan s_InvalidSize_InvalidSize, kit_of i_InvalidNumber t_InvalidNumber s_InvalidSize_InvalidNumber s_InvalidSize_InvalidSize, kit_of i_InvalidHeight t_InvalidHeight s_InvalidSize_InvalidHeight s_InvalidSize_InvalidSize, kit_of i_InvalidBudget t_InvalidBudget s_InvalidSize_InvalidBudget s_InvalidSize_InvalidSize, kit_of i_InvalidOperation t_InvalidOperation s_InvalidSize_InvalidOperation s_InvalidSize_InvalidSize, kit_of i_Nothing t_Nothing s_InvalidSize_Nothing s_InvalidSize_InvalidSize, kit_of i_InvalidCommand t_InvalidCommand s_InvalidSize_InvalidCommand s_InvalidSize_InvalidSize, trivial⟩, kit_of i_LogError t_LogError l_InvalidSize s_InvalidSize_InvalidSize, kit_ty0 (by decide) v_InvalidSize⟩
  have VInvalidEntry : CV K [CInvalidSpans, CInvalidNodes, CInvalidBounds, CInvalidText, COverBudget, CInvalidSize, CInvalidEntry, CInvalidNode, CInvalidSpan, CInvalidNumber, CInvalidHeight, CInvalidBudget, CInvalidOperation, CNothing, CInvalidCommand] CLogError CInvalidEntry (row 6) := ⟨EInvalidEntry, ⟨kit_of i_InvalidSpans t_InvalidSpans s_InvalidEntry_InvalidSpans s_InvalidEntry_InvalidEntry, kit_of i_InvalidNodes t_InvalidNodes s_InvalidEntry_InvalidNodes s_InvalidEntry_InvalidEntry, kit_of i_InvalidBounds t_InvalidBounds s_InvalidEntry_InvalidBounds s_InvalidEntry_InvalidEntry, kit_of i_InvalidText t_InvalidText s_InvalidEntry_InvalidText s_InvalidEntry_InvalidEntry, kit_of i_OverBudget t_OverBudget s_InvalidEntry_OverBudget s_InvalidEntry_InvalidEntry, kit_of i_InvalidSize t_InvalidSize s_InvalidEntry_InvalidSize s_InvalidEntry_InvalidEntry, kit_of i_InvalidEntry t_InvalidEntry s_InvalidEntry_InvalidEntry s_InvalidEntry_InvalidEntry, kit_of i_InvalidNode t_InvalidNode s_InvalidEntry_InvalidNode s_InvalidEntry_InvalidEntry, kit_of i_InvalidSpan t_InvalidSpan s_InvalidEntry_InvalidSpan s_InvalidEntry_InvalidEntry, kit_of i_InvalidNumber t_InvalidNumber s_InvalidEntry_InvalidNumber s_InvalidEntry_InvalidEntry, kit_of i_InvalidHeight t_InvalidHeight s_InvalidEntry_InvalidHeight s_InvalidEntry_InvalidEntry, kit_of i_InvalidBudget t_InvalidBudget s_InvalidEntry_InvalidBudget s_InvalidEntry_InvalidEntry, kit_of i_InvalidOperation t_InvalidOperation s_InvalidEntry_InvalidOperation s_InvalidEntry_InvalidEntry, kit_of i_Nothing t_Nothing s_InvalidEntry_Nothing s_InvalidEntry_InvalidEntry, kit_of i_InvalidCommand t_InvalidCommand s_InvalidEntry_InvalidCommand s_InvalidEntry_InvalidEntry, trivial⟩, kit_of i_LogError t_LogError l_InvalidEntry s_InvalidEntry_InvalidEntry, kit_ty0 (by decide) v_InvalidEntry⟩
  have VInvalidNode : CV K [CInvalidSpans, CInvalidNodes, CInvalidBounds, CInvalidText, COverBudget, CInvalidSize, CInvalidEntry, CInvalidNode, CInvalidSpan, CInvalidNumber, CInvalidHeight, CInvalidBudget, CInvalidOperation, CNothing, CInvalidCommand] CLogError CInvalidNode (row 7) := ⟨EInvalidNode, ⟨kit_of i_InvalidSpans t_InvalidSpans s_InvalidNode_InvalidSpans s_InvalidNode_InvalidNode, kit_of i_InvalidNodes t_InvalidNodes s_InvalidNode_InvalidNodes s_InvalidNode_InvalidNode, kit_of i_InvalidBounds t_InvalidBounds s_InvalidNode_InvalidBounds s_InvalidNode_InvalidNode, kit_of i_InvalidText t_InvalidText s_InvalidNode_InvalidText s_InvalidNode_InvalidNode, kit_of i_OverBudget t_OverBudget s_InvalidNode_OverBudget s_InvalidNode_InvalidNode, kit_of i_InvalidSize t_InvalidSize s_InvalidNode_InvalidSize s_InvalidNode_InvalidNode, kit_of i_InvalidEntry t_InvalidEntry s_InvalidNode_InvalidEntry s_InvalidNode_InvalidNode, kit_of i_InvalidNode t_InvalidNode s_InvalidNode_InvalidNode s_InvalidNode_InvalidNode, kit_of i_InvalidSpan t_InvalidSpan s_InvalidNode_InvalidSpan s_InvalidNode_InvalidNode, kit_of i_InvalidNumber t_InvalidNumber s_InvalidNode_InvalidNumber s_InvalidNode_InvalidNode, kit_of i_InvalidHeight t_InvalidHeight s_InvalidNode_InvalidHeight s_InvalidNode_InvalidNode, kit_of i_InvalidBudget t_InvalidBudget s_InvalidNode_InvalidBudget s_InvalidNode_InvalidNode, kit_of i_InvalidOperation t_InvalidOperation s_InvalidNode_InvalidOperation s_InvalidNode_InvalidNode, kit_of i_Nothing t_Nothing s_InvalidNode_Nothing s_InvalidNode_InvalidNode, kit_of i_InvalidCommand t_InvalidCommand s_InvalidNode_InvalidCommand s_InvalidNode_InvalidNode, trivial⟩, kit_of i_LogError t_LogError l_InvalidNode s_InvalidNode_InvalidNode, kit_ty0 (by decide) v_InvalidNode⟩
  have VInvalidSpan : CV K [CInvalidSpans, CInvalidNodes, CInvalidBounds, CInvalidText, COverBudget, CInvalidSize, CInvalidEntry, CInvalidNode, CInvalidSpan, CInvalidNumber, CInvalidHeight, CInvalidBudget, CInvalidOperation, CNothing, CInvalidCommand] CLogError CInvalidSpan (row 8) := ⟨EInvalidSpan, ⟨kit_of i_InvalidSpans t_InvalidSpans s_InvalidSpan_InvalidSpans s_InvalidSpan_InvalidSpan, kit_of i_InvalidNodes t_InvalidNodes s_InvalidSpan_InvalidNodes s_InvalidSpan_InvalidSpan, kit_of i_InvalidBounds t_InvalidBounds s_InvalidSpan_InvalidBounds s_InvalidSpan_InvalidSpan, kit_of i_InvalidText t_InvalidText s_InvalidSpan_InvalidText s_InvalidSpan_InvalidSpan, kit_of i_OverBudget t_OverBudget s_InvalidSpan_OverBudget s_InvalidSpan_InvalidSpan, kit_of i_InvalidSize t_InvalidSize s_InvalidSpan_InvalidSize s_InvalidSpan_InvalidSpan, kit_of i_InvalidEntry t_InvalidEntry s_InvalidSpan_InvalidEntry s_InvalidSpan_InvalidSpan, kit_of i_InvalidNode t_InvalidNode s_InvalidSpan_InvalidNode s_InvalidSpan_InvalidSpan, kit_of i_InvalidSpan t_InvalidSpan s_InvalidSpan_InvalidSpan s_InvalidSpan_InvalidSpan, kit_of i_InvalidNumber t_InvalidNumber s_InvalidSpan_InvalidNumber s_InvalidSpan_InvalidSpan, kit_of i_InvalidHeight t_InvalidHeight s_InvalidSpan_InvalidHeight s_InvalidSpan_InvalidSpan, kit_of i_InvalidBudget t_InvalidBudget s_InvalidSpan_InvalidBudget s_InvalidSpan_InvalidSpan, kit_of i_InvalidOperation t_InvalidOperation s_InvalidSpan_InvalidOperation s_InvalidSpan_InvalidSpan, kit_of i_Nothing t_Nothing s_InvalidSpan_Nothing s_InvalidSpan_InvalidSpan, kit_of i_InvalidCommand t_InvalidCommand s_InvalidSpan_InvalidCommand s_InvalidSpan_InvalidSpan, trivial⟩, kit_of i_LogError t_LogError l_InvalidSpan s_InvalidSpan_InvalidSpan, kit_ty0 (by decide) v_InvalidSpan⟩
  have VInvalidNumber : CV K [CInvalidSpans, CInvalidNodes, CInvalidBounds, CInvalidText, COverBudget, CInvalidSize, CInvalidEntry, CInvalidNode, CInvalidSpan, CInvalidNumber, CInvalidHeight, CInvalidBudget, CInvalidOperation, CNothing, CInvalidCommand] CLogError CInvalidNumber (row 9) := ⟨EInvalidNumber, ⟨kit_of i_InvalidSpans t_InvalidSpans s_InvalidNumber_InvalidSpans s_InvalidNumber_InvalidNumber, kit_of i_InvalidNodes t_InvalidNodes s_InvalidNumber_InvalidNodes s_InvalidNumber_InvalidNumber, kit_of i_InvalidBounds t_InvalidBounds s_InvalidNumber_InvalidBounds s_InvalidNumber_InvalidNumber, kit_of i_InvalidText t_InvalidText s_InvalidNumber_InvalidText s_InvalidNumber_InvalidNumber, kit_of i_OverBudget t_OverBudget s_InvalidNumber_OverBudget s_InvalidNumber_InvalidNumber, kit_of i_InvalidSize t_InvalidSize s_InvalidNumber_InvalidSize s_InvalidNumber_InvalidNumber, kit_of i_InvalidEntry t_InvalidEntry s_InvalidNumber_InvalidEntry s_InvalidNumber_InvalidNumber, kit_of i_InvalidNode t_InvalidNode s_InvalidNumber_InvalidNode s_InvalidNumber_InvalidNumber, kit_of i_InvalidSpan t_InvalidSpan s_InvalidNumber_InvalidSpan s_InvalidNumber_InvalidNumber, kit_of i_InvalidNumber t_InvalidNumber s_InvalidNumber_InvalidNumber s_InvalidNumber_InvalidNumber, kit_of i_InvalidHeight t_InvalidHeight s_InvalidNumber_InvalidHeight s_InvalidNumber_InvalidNumber, kit_of i_InvalidBudget t_InvalidBudget s_InvalidNumber_InvalidBudget s_InvalidNumber_InvalidNumber, kit_of i_InvalidOperation t_InvalidOperation s_InvalidNumber_InvalidOperation s_InvalidNumber_InvalidNumber, kit_of i_Nothing t_Nothing s_InvalidNumber_Nothing s_InvalidNumber_InvalidNumber, kit_of i_InvalidCommand t_InvalidCommand s_InvalidNumber_InvalidCommand s_InvalidNumber_InvalidNumber, trivial⟩, kit_of i_LogError t_LogError l_InvalidNumber s_InvalidNumber_InvalidNumber, kit_ty0 (by decide) v_InvalidNumber⟩
  have VInvalidHeight : CV K [CInvalidSpans, CInvalidNodes, CInvalidBounds, CInvalidText, COverBudget, CInvalidSize, CInvalidEntry, CInvalidNode, CInvalidSpan, CInvalidNumber, CInvalidHeight, CInvalidBudget, CInvalidOperation, CNothing, CInvalidCommand] CLogError CInvalidHeight (row 10) := ⟨EInvalidHeight, ⟨kit_of i_InvalidSpans t_InvalidSpans s_InvalidHeight_InvalidSpans s_InvalidHeight_InvalidHeight, kit_of i_InvalidNodes t_InvalidNodes s_InvalidHeight_InvalidNodes s_InvalidHeight_InvalidHeight, kit_of i_InvalidBounds t_InvalidBounds s_InvalidHeight_InvalidBounds s_InvalidHeight_InvalidHeight, kit_of i_InvalidText t_InvalidText s_InvalidHeight_InvalidText s_InvalidHeight_InvalidHeight, kit_of i_OverBudget t_OverBudget s_InvalidHeight_OverBudget s_InvalidHeight_InvalidHeight, kit_of i_InvalidSize t_InvalidSize s_InvalidHeight_InvalidSize s_InvalidHeight_InvalidHeight, kit_of i_InvalidEntry t_InvalidEntry s_InvalidHeight_InvalidEntry s_InvalidHeight_InvalidHeight, kit_of i_InvalidNode t_InvalidNode s_InvalidHeight_InvalidNode s_InvalidHeight_InvalidHeight, kit_of i_InvalidSpan t_InvalidSpan s_InvalidHeight_InvalidSpan s_InvalidHeight_InvalidHeight, kit_of i_InvalidNumber t_InvalidNumber s_InvalidHeight_InvalidNumber s_InvalidHeight_InvalidHeight, kit_of i_InvalidHeight t_InvalidHeight s_InvalidHeight_InvalidHeight s_InvalidHeight_InvalidHeight, kit_of i_InvalidBudget t_InvalidBudget s_InvalidHeight_InvalidBudget s_InvalidHeight_InvalidHeight, kit_of i_InvalidOperation t_InvalidOperation s_InvalidHeight_InvalidOperation s_InvalidHeight_InvalidHeight, kit_of i_Nothing t_Nothing s_InvalidHeight_Nothing s_InvalidHeight_InvalidHeight, kit_of i_InvalidCommand t_InvalidCommand s_InvalidHeight_InvalidCommand s_InvalidHeight_InvalidHeight, trivial⟩, kit_of i_LogError t_LogError l_InvalidHeight s_InvalidHeight_InvalidHeight, kit_ty0 (by decide) v_InvalidHeight⟩
  have VInvalidBudget : CV K [CInvalidSpans, CInvalidNodes, CInvalidBounds, CInvalidText, COverBudget, CInvalidSize, CInvalidEntry, CInvalidNode, CInvalidSpan, CInvalidNumber, CInvalidHeight, CInvalidBudget, CInvalidOperation, CNothing, CInvalidCommand] CLogError CInvalidBudget (row 11) := ⟨EInvalidBudget, ⟨kit_of i_InvalidSpans t_InvalidSpans s_InvalidBudget_InvalidSpans s_InvalidBudget_InvalidBudget, kit_of i_InvalidNodes t_InvalidNodes s_InvalidBudget_InvalidNodes s_InvalidBudget_InvalidBudget, kit_of i_InvalidBounds t_InvalidBounds s_InvalidBudget_InvalidBounds s_InvalidBudget_InvalidBudget, kit_of i_InvalidText t_InvalidText s_InvalidBudget_InvalidText s_InvalidBudget_InvalidBudget, kit_of i_OverBudget t_OverBudget s_InvalidBudget_OverBudget s_InvalidBudget_InvalidBudget, kit_of i_InvalidSize t_InvalidSize s_InvalidBudget_InvalidSize s_InvalidBudget_InvalidBudget, kit_of i_InvalidEntry t_InvalidEntry s_InvalidBudget_InvalidEntry s_InvalidBudget_InvalidBudget, kit_of i_InvalidNode t_InvalidNode s_InvalidBudget_InvalidNode s_InvalidBudget_InvalidBudget, kit_of i_InvalidSpan t_InvalidSpan s_InvalidBudget_InvalidSpan s_InvalidBudget_InvalidBudget, kit_of i_InvalidNumber t_InvalidNumber s_InvalidBudget_InvalidNumber s_InvalidBudget_InvalidBudget, kit_of i_InvalidHeight t_InvalidHeight s_InvalidBudget_InvalidHeight s_InvalidBudget_InvalidBudget, kit_of i_InvalidBudget t_InvalidBudget s_InvalidBudget_InvalidBudget s_InvalidBudget_InvalidBudget, kit_of i_InvalidOperation t_InvalidOperation s_InvalidBudget_InvalidOperation s_InvalidBudget_InvalidBudget, kit_of i_Nothing t_Nothing s_InvalidBudget_Nothing s_InvalidBudget_InvalidBudget, kit_of i_InvalidCommand t_InvalidCommand s_InvalidBudget_InvalidCommand s_InvalidBudget_InvalidBudget, trivial⟩, kit_of i_LogError t_LogError l_InvalidBudget s_InvalidBudget_InvalidBudget, kit_ty0 (by decide) v_InvalidBudget⟩
  have VInvalidOperation : CV K [CInvalidSpans, CInvalidNodes, CInvalidBounds, CInvalidText, COverBudget, CInvalidSize, CInvalidEntry, CInvalidNode, CInvalidSpan, CInvalidNumber, CInvalidHeight, CInvalidBudget, CInvalidOperation, CNothing, CInvalidCommand] CLogError CInvalidOperation (row 12) := ⟨EInvalidOperation, ⟨kit_of i_InvalidSpans t_InvalidSpans s_InvalidOperation_InvalidSpans s_InvalidOperation_InvalidOperation, kit_of i_InvalidNodes t_InvalidNodes s_InvalidOperation_InvalidNodes s_InvalidOperation_InvalidOperation, kit_of i_InvalidBounds t_InvalidBounds s_InvalidOperation_InvalidBounds s_InvalidOperation_InvalidOperation, kit_of i_InvalidText t_InvalidText s_InvalidOperation_InvalidText s_InvalidOperation_InvalidOperation, kit_of i_OverBudget t_OverBudget s_InvalidOperation_OverBudget s_InvalidOperation_InvalidOperation, kit_of i_InvalidSize t_InvalidSize s_InvalidOperation_InvalidSize s_InvalidOperation_InvalidOperation, kit_of i_InvalidEntry t_InvalidEntry s_InvalidOperation_InvalidEntry s_InvalidOperation_InvalidOperation, kit_of i_InvalidNode t_InvalidNode s_InvalidOperation_InvalidNode s_InvalidOperation_InvalidOperation, kit_of i_InvalidSpan t_InvalidSpan s_InvalidOperation_InvalidSpan s_InvalidOperation_InvalidOperation, kit_of i_InvalidNumber t_InvalidNumber s_InvalidOperation_InvalidNumber s_InvalidOperation_InvalidOperation, kit_of i_InvalidHeight t_InvalidHeight s_InvalidOperation_InvalidHeight s_InvalidOperation_InvalidOperation, kit_of i_InvalidBudget t_InvalidBudget s_InvalidOperation_InvalidBudget s_InvalidOperation_InvalidOperation, kit_of i_InvalidOperation t_InvalidOperation s_InvalidOperation_InvalidOperation s_InvalidOperation_InvalidOperation, kit_of i_Nothing t_Nothing s_InvalidOperation_Nothing s_InvalidOperation_InvalidOperation, kit_of i_InvalidCommand t_InvalidCommand s_InvalidOperation_InvalidCommand s_InvalidOperation_InvalidOperation, trivial⟩, kit_of i_LogError t_LogError l_InvalidOperation s_InvalidOperation_InvalidOperation, kit_ty0 (by decide) v_InvalidOperation⟩
  have VNothing : CV K [CInvalidSpans, CInvalidNodes, CInvalidBounds, CInvalidText, COverBudget, CInvalidSize, CInvalidEntry, CInvalidNode, CInvalidSpan, CInvalidNumber, CInvalidHeight, CInvalidBudget, CInvalidOperation, CNothing, CInvalidCommand] CLogError CNothing (row 13) := ⟨ENothing, ⟨kit_of i_InvalidSpans t_InvalidSpans s_Nothing_InvalidSpans s_Nothing_Nothing, kit_of i_InvalidNodes t_InvalidNodes s_Nothing_InvalidNodes s_Nothing_Nothing, kit_of i_InvalidBounds t_InvalidBounds s_Nothing_InvalidBounds s_Nothing_Nothing, kit_of i_InvalidText t_InvalidText s_Nothing_InvalidText s_Nothing_Nothing, kit_of i_OverBudget t_OverBudget s_Nothing_OverBudget s_Nothing_Nothing, kit_of i_InvalidSize t_InvalidSize s_Nothing_InvalidSize s_Nothing_Nothing, kit_of i_InvalidEntry t_InvalidEntry s_Nothing_InvalidEntry s_Nothing_Nothing, kit_of i_InvalidNode t_InvalidNode s_Nothing_InvalidNode s_Nothing_Nothing, kit_of i_InvalidSpan t_InvalidSpan s_Nothing_InvalidSpan s_Nothing_Nothing, kit_of i_InvalidNumber t_InvalidNumber s_Nothing_InvalidNumber s_Nothing_Nothing, kit_of i_InvalidHeight t_InvalidHeight s_Nothing_InvalidHeight s_Nothing_Nothing, kit_of i_InvalidBudget t_InvalidBudget s_Nothing_InvalidBudget s_Nothing_Nothing, kit_of i_InvalidOperation t_InvalidOperation s_Nothing_InvalidOperation s_Nothing_Nothing, kit_of i_Nothing t_Nothing s_Nothing_Nothing s_Nothing_Nothing, kit_of i_InvalidCommand t_InvalidCommand s_Nothing_InvalidCommand s_Nothing_Nothing, trivial⟩, kit_of i_LogError t_LogError l_Nothing s_Nothing_Nothing, kit_ty0 (by decide) v_Nothing⟩
  have VInvalidCommand : CV K [CInvalidSpans, CInvalidNodes, CInvalidBounds, CInvalidText, COverBudget, CInvalidSize, CInvalidEntry, CInvalidNode, CInvalidSpan, CInvalidNumber, CInvalidHeight, CInvalidBudget, CInvalidOperation, CNothing, CInvalidCommand] CLogError CInvalidCommand (row 14) := ⟨EInvalidCommand, ⟨kit_of i_InvalidSpans t_InvalidSpans s_InvalidCommand_InvalidSpans s_InvalidCommand_InvalidCommand, kit_of i_InvalidNodes t_InvalidNodes s_InvalidCommand_InvalidNodes s_InvalidCommand_InvalidCommand, kit_of i_InvalidBounds t_InvalidBounds s_InvalidCommand_InvalidBounds s_InvalidCommand_InvalidCommand, kit_of i_InvalidText t_InvalidText s_InvalidCommand_InvalidText s_InvalidCommand_InvalidCommand, kit_of i_OverBudget t_OverBudget s_InvalidCommand_OverBudget s_InvalidCommand_InvalidCommand, kit_of i_InvalidSize t_InvalidSize s_InvalidCommand_InvalidSize s_InvalidCommand_InvalidCommand, kit_of i_InvalidEntry t_InvalidEntry s_InvalidCommand_InvalidEntry s_InvalidCommand_InvalidCommand, kit_of i_InvalidNode t_InvalidNode s_InvalidCommand_InvalidNode s_InvalidCommand_InvalidCommand, kit_of i_InvalidSpan t_InvalidSpan s_InvalidCommand_InvalidSpan s_InvalidCommand_InvalidCommand, kit_of i_InvalidNumber t_InvalidNumber s_InvalidCommand_InvalidNumber s_InvalidCommand_InvalidCommand, kit_of i_InvalidHeight t_InvalidHeight s_InvalidCommand_InvalidHeight s_InvalidCommand_InvalidCommand, kit_of i_InvalidBudget t_InvalidBudget s_InvalidCommand_InvalidBudget s_InvalidCommand_InvalidCommand, kit_of i_InvalidOperation t_InvalidOperation s_InvalidCommand_InvalidOperation s_InvalidCommand_InvalidCommand, kit_of i_Nothing t_Nothing s_InvalidCommand_Nothing s_InvalidCommand_InvalidCommand, kit_of i_InvalidCommand t_InvalidCommand s_InvalidCommand_InvalidCommand s_InvalidCommand_InvalidCommand, trivial⟩, kit_of i_LogError t_LogError l_InvalidCommand s_InvalidCommand_InvalidCommand, kit_ty0 (by decide) v_InvalidCommand⟩
  have GLawBag := ok_law_bag (P := l.prog) (w := w) (base := base) FLawBag z_max
  have GLawPick := ok_law_pick (P := l.prog) (w := w) (base := base) FLawPick z_int
  have GLawClasses := ok_law_classes (P := l.prog) (w := w) (base := base) FLawClasses GInvalidSpans GInvalidNodes GInvalidBounds GInvalidText GOverBudget GInvalidSize GInvalidEntry GInvalidNode GInvalidSpan GInvalidNumber GInvalidHeight GInvalidBudget GInvalidOperation GNothing GInvalidCommand z_isinstance
  have GLawMade := ok_law_made FLawMade XInvalidSpans XInvalidNodes XInvalidBounds XInvalidText XOverBudget XInvalidSize XInvalidEntry XInvalidNode XInvalidSpan XInvalidNumber XInvalidHeight XInvalidBudget XInvalidOperation XNothing XInvalidCommand
  refine ok_law FLaw GLawBag ALawBag GLawPick ALawPick GLawMade ALawMade GLawClasses ALawClasses XLogError XInvalidSpans XInvalidNodes XInvalidBounds XInvalidText ?_ ELogError ⟨kit_of i_InvalidSpans t_InvalidSpans s_LogError_InvalidSpans l_LogError, kit_of i_InvalidNodes t_InvalidNodes s_LogError_InvalidNodes l_LogError, kit_of i_InvalidBounds t_InvalidBounds s_LogError_InvalidBounds l_LogError, kit_of i_InvalidText t_InvalidText s_LogError_InvalidText l_LogError, kit_of i_OverBudget t_OverBudget s_LogError_OverBudget l_LogError, kit_of i_InvalidSize t_InvalidSize s_LogError_InvalidSize l_LogError, kit_of i_InvalidEntry t_InvalidEntry s_LogError_InvalidEntry l_LogError, kit_of i_InvalidNode t_InvalidNode s_LogError_InvalidNode l_LogError, kit_of i_InvalidSpan t_InvalidSpan s_LogError_InvalidSpan l_LogError, kit_of i_InvalidNumber t_InvalidNumber s_LogError_InvalidNumber l_LogError, kit_of i_InvalidHeight t_InvalidHeight s_LogError_InvalidHeight l_LogError, kit_of i_InvalidBudget t_InvalidBudget s_LogError_InvalidBudget l_LogError, kit_of i_InvalidOperation t_InvalidOperation s_LogError_InvalidOperation l_LogError, kit_of i_Nothing t_Nothing s_LogError_Nothing l_LogError, kit_of i_InvalidCommand t_InvalidCommand s_LogError_InvalidCommand l_LogError, trivial⟩ (kit_ty0 (by decide) v_LogError) z_range z_enumerate z_isinstance z_len z_ValueError
  intro k x hx
  have hk : k < 15 := (List.getElem?_eq_some_iff.mp hx).1
  match k, hk, hx with
  | 0, _, hx =>
    cases (Option.some.inj hx)
    exact ⟨VInvalidSpans, fun f e => by cases e; exact ⟨⟨g_InvalidSpans, a_InvalidSpans, b_InvalidSpans, d_InvalidSpans⟩, f_InvalidSpans⟩⟩
  | 1, _, hx =>
    cases (Option.some.inj hx)
    exact ⟨VInvalidNodes, fun f e => by cases e; exact ⟨⟨g_InvalidNodes, a_InvalidNodes, b_InvalidNodes, d_InvalidNodes⟩, f_InvalidNodes⟩⟩
  | 2, _, hx =>
    cases (Option.some.inj hx)
    exact ⟨VInvalidBounds, fun f e => by cases e; exact ⟨⟨g_InvalidBounds, a_InvalidBounds, b_InvalidBounds, d_InvalidBounds⟩, f_InvalidBounds⟩⟩
  | 3, _, hx =>
    cases (Option.some.inj hx)
    exact ⟨VInvalidText, fun f e => by cases e; exact ⟨⟨g_InvalidText, a_InvalidText, b_InvalidText, d_InvalidText⟩, f_InvalidText⟩⟩
  | 4, _, hx =>
    cases (Option.some.inj hx)
    exact ⟨VOverBudget, fun f e => by cases e; exact ⟨⟨g_OverBudget, a_OverBudget, b_OverBudget, d_OverBudget⟩, f_OverBudget⟩⟩
  | 5, _, hx =>
    cases (Option.some.inj hx)
    exact ⟨VInvalidSize, fun f e => nomatch e⟩
  | 6, _, hx =>
    cases (Option.some.inj hx)
    exact ⟨VInvalidEntry, fun f e => nomatch e⟩
  | 7, _, hx =>
    cases (Option.some.inj hx)
    exact ⟨VInvalidNode, fun f e => nomatch e⟩
  | 8, _, hx =>
    cases (Option.some.inj hx)
    exact ⟨VInvalidSpan, fun f e => nomatch e⟩
  | 9, _, hx =>
    cases (Option.some.inj hx)
    exact ⟨VInvalidNumber, fun f e => nomatch e⟩
  | 10, _, hx =>
    cases (Option.some.inj hx)
    exact ⟨VInvalidHeight, fun f e => nomatch e⟩
  | 11, _, hx =>
    cases (Option.some.inj hx)
    exact ⟨VInvalidBudget, fun f e => nomatch e⟩
  | 12, _, hx =>
    cases (Option.some.inj hx)
    exact ⟨VInvalidOperation, fun f e => nomatch e⟩
  | 13, _, hx =>
    cases (Option.some.inj hx)
    exact ⟨VNothing, fun f e => nomatch e⟩
  | 14, _, hx =>
    cases (Option.some.inj hx)
    exact ⟨VInvalidCommand, fun f e => nomatch e⟩
  | k + 15, hk, _ => exact absurd hk (by omega)
end LT
open PySem PySem.W PyProof.Rows
set_option maxRecDepth 100000 in
set_option maxHeartbeats 0 in
theorem PySem.Challenge.cw_logtrees_k48_errors_made_holds : PySem.Challenge.rw_logtrees_k48_errors_made.Holds := by
  w_on; o_law; k_head; (case hw => w_witness2)
  k_fill
  refine L2.walk_of (l := PySem.Challenge.rw_logtrees_k48_errors_made) (n := 63) (k := 4) (x := "script") (CX := fun _ => L2.CX0) (sp := fun w => LT.spLaw _) rfl (by decide) rfl ⟨rfl, by decide, by decide⟩ (fun w h Y => PySem.W.kIn_of Y) ?F (fun _ _ a ns hl _ hS => ⟨a, ns, rfl, hS, hl, fun _ => rfl⟩) (fun _ _ _ _ _ h => h)
  case F =>
    intro w mg fa h KX G hmg
    refine' LT.all_mk KX G hmg ?a0 ?l0 ?c0 ?k0 ?a1 ?l1 ?c1 ?k1 ?a2 ?l2 ?c2 ?k2 ?a3 ?l3 ?c3 ?k3 ?a4 ?l4 ?c4 ?k4 ?z_ValueError ?z_enumerate ?z_int ?z_isinstance ?z_len ?z_max ?z_range ?n_InvalidSpans ?i_InvalidSpans ?t_InvalidSpans ?n_InvalidNodes ?i_InvalidNodes ?t_InvalidNodes ?n_InvalidBounds ?i_InvalidBounds ?t_InvalidBounds ?n_InvalidText ?i_InvalidText ?t_InvalidText ?n_OverBudget ?i_OverBudget ?t_OverBudget ?n_InvalidSize ?i_InvalidSize ?t_InvalidSize ?n_InvalidEntry ?i_InvalidEntry ?t_InvalidEntry ?n_InvalidNode ?i_InvalidNode ?t_InvalidNode ?n_InvalidSpan ?i_InvalidSpan ?t_InvalidSpan ?n_InvalidNumber ?i_InvalidNumber ?t_InvalidNumber ?n_InvalidHeight ?i_InvalidHeight ?t_InvalidHeight ?n_InvalidBudget ?i_InvalidBudget ?t_InvalidBudget ?n_InvalidOperation ?i_InvalidOperation ?t_InvalidOperation ?n_Nothing ?i_Nothing ?t_Nothing ?n_InvalidCommand ?i_InvalidCommand ?t_InvalidCommand ?n_LogError ?i_LogError ?t_LogError ?k_InvalidSpans ?b_InvalidSpans ?g_InvalidSpans ?a_InvalidSpans ?d_InvalidSpans ?c_InvalidSpans ?m_InvalidSpans ?v_InvalidSpans ?l_InvalidSpans ?s_InvalidSpans_InvalidSpans ?s_InvalidSpans_InvalidNodes ?s_InvalidSpans_InvalidBounds ?s_InvalidSpans_InvalidText ?s_InvalidSpans_OverBudget ?s_InvalidSpans_InvalidSize ?s_InvalidSpans_InvalidEntry ?s_InvalidSpans_InvalidNode ?s_InvalidSpans_InvalidSpan ?s_InvalidSpans_InvalidNumber ?s_InvalidSpans_InvalidHeight ?s_InvalidSpans_InvalidBudget ?s_InvalidSpans_InvalidOperation ?s_InvalidSpans_Nothing ?s_InvalidSpans_InvalidCommand ?k_InvalidNodes ?b_InvalidNodes ?g_InvalidNodes ?a_InvalidNodes ?d_InvalidNodes ?c_InvalidNodes ?m_InvalidNodes ?v_InvalidNodes ?l_InvalidNodes ?s_InvalidNodes_InvalidSpans ?s_InvalidNodes_InvalidNodes ?s_InvalidNodes_InvalidBounds ?s_InvalidNodes_InvalidText ?s_InvalidNodes_OverBudget ?s_InvalidNodes_InvalidSize ?s_InvalidNodes_InvalidEntry ?s_InvalidNodes_InvalidNode ?s_InvalidNodes_InvalidSpan ?s_InvalidNodes_InvalidNumber ?s_InvalidNodes_InvalidHeight ?s_InvalidNodes_InvalidBudget ?s_InvalidNodes_InvalidOperation ?s_InvalidNodes_Nothing ?s_InvalidNodes_InvalidCommand ?k_InvalidBounds ?b_InvalidBounds ?g_InvalidBounds ?a_InvalidBounds ?d_InvalidBounds ?c_InvalidBounds ?m_InvalidBounds ?v_InvalidBounds ?l_InvalidBounds ?s_InvalidBounds_InvalidSpans ?s_InvalidBounds_InvalidNodes ?s_InvalidBounds_InvalidBounds ?s_InvalidBounds_InvalidText ?s_InvalidBounds_OverBudget ?s_InvalidBounds_InvalidSize ?s_InvalidBounds_InvalidEntry ?s_InvalidBounds_InvalidNode ?s_InvalidBounds_InvalidSpan ?s_InvalidBounds_InvalidNumber ?s_InvalidBounds_InvalidHeight ?s_InvalidBounds_InvalidBudget ?s_InvalidBounds_InvalidOperation ?s_InvalidBounds_Nothing ?s_InvalidBounds_InvalidCommand ?k_InvalidText ?b_InvalidText ?g_InvalidText ?a_InvalidText ?d_InvalidText ?c_InvalidText ?m_InvalidText ?v_InvalidText ?l_InvalidText ?s_InvalidText_InvalidSpans ?s_InvalidText_InvalidNodes ?s_InvalidText_InvalidBounds ?s_InvalidText_InvalidText ?s_InvalidText_OverBudget ?s_InvalidText_InvalidSize ?s_InvalidText_InvalidEntry ?s_InvalidText_InvalidNode ?s_InvalidText_InvalidSpan ?s_InvalidText_InvalidNumber ?s_InvalidText_InvalidHeight ?s_InvalidText_InvalidBudget ?s_InvalidText_InvalidOperation ?s_InvalidText_Nothing ?s_InvalidText_InvalidCommand ?k_OverBudget ?b_OverBudget ?g_OverBudget ?a_OverBudget ?d_OverBudget ?c_OverBudget ?m_OverBudget ?v_OverBudget ?l_OverBudget ?s_OverBudget_InvalidSpans ?s_OverBudget_InvalidNodes ?s_OverBudget_InvalidBounds ?s_OverBudget_InvalidText ?s_OverBudget_OverBudget ?s_OverBudget_InvalidSize ?s_OverBudget_InvalidEntry ?s_OverBudget_InvalidNode ?s_OverBudget_InvalidSpan ?s_OverBudget_InvalidNumber ?s_OverBudget_InvalidHeight ?s_OverBudget_InvalidBudget ?s_OverBudget_InvalidOperation ?s_OverBudget_Nothing ?s_OverBudget_InvalidCommand ?k_InvalidSize ?b_InvalidSize ?g_InvalidSize ?a_InvalidSize ?d_InvalidSize ?c_InvalidSize ?m_InvalidSize ?v_InvalidSize ?l_InvalidSize ?q_InvalidSize ?s_InvalidSize_InvalidSpans ?s_InvalidSize_InvalidNodes ?s_InvalidSize_InvalidBounds ?s_InvalidSize_InvalidText ?s_InvalidSize_OverBudget ?s_InvalidSize_InvalidSize ?s_InvalidSize_InvalidEntry ?s_InvalidSize_InvalidNode ?s_InvalidSize_InvalidSpan ?s_InvalidSize_InvalidNumber ?s_InvalidSize_InvalidHeight ?s_InvalidSize_InvalidBudget ?s_InvalidSize_InvalidOperation ?s_InvalidSize_Nothing ?s_InvalidSize_InvalidCommand ?k_InvalidEntry ?b_InvalidEntry ?g_InvalidEntry ?a_InvalidEntry ?d_InvalidEntry ?c_InvalidEntry ?m_InvalidEntry ?v_InvalidEntry ?l_InvalidEntry ?q_InvalidEntry ?s_InvalidEntry_InvalidSpans ?s_InvalidEntry_InvalidNodes ?s_InvalidEntry_InvalidBounds ?s_InvalidEntry_InvalidText ?s_InvalidEntry_OverBudget ?s_InvalidEntry_InvalidSize ?s_InvalidEntry_InvalidEntry ?s_InvalidEntry_InvalidNode ?s_InvalidEntry_InvalidSpan ?s_InvalidEntry_InvalidNumber ?s_InvalidEntry_InvalidHeight ?s_InvalidEntry_InvalidBudget ?s_InvalidEntry_InvalidOperation ?s_InvalidEntry_Nothing ?s_InvalidEntry_InvalidCommand ?k_InvalidNode ?b_InvalidNode ?g_InvalidNode ?a_InvalidNode ?d_InvalidNode ?c_InvalidNode ?m_InvalidNode ?v_InvalidNode ?l_InvalidNode ?q_InvalidNode ?s_InvalidNode_InvalidSpans ?s_InvalidNode_InvalidNodes ?s_InvalidNode_InvalidBounds ?s_InvalidNode_InvalidText ?s_InvalidNode_OverBudget ?s_InvalidNode_InvalidSize ?s_InvalidNode_InvalidEntry ?s_InvalidNode_InvalidNode ?s_InvalidNode_InvalidSpan ?s_InvalidNode_InvalidNumber ?s_InvalidNode_InvalidHeight ?s_InvalidNode_InvalidBudget ?s_InvalidNode_InvalidOperation ?s_InvalidNode_Nothing ?s_InvalidNode_InvalidCommand ?k_InvalidSpan ?b_InvalidSpan ?g_InvalidSpan ?a_InvalidSpan ?d_InvalidSpan ?c_InvalidSpan ?m_InvalidSpan ?v_InvalidSpan ?l_InvalidSpan ?q_InvalidSpan ?s_InvalidSpan_InvalidSpans ?s_InvalidSpan_InvalidNodes ?s_InvalidSpan_InvalidBounds ?s_InvalidSpan_InvalidText ?s_InvalidSpan_OverBudget ?s_InvalidSpan_InvalidSize ?s_InvalidSpan_InvalidEntry ?s_InvalidSpan_InvalidNode ?s_InvalidSpan_InvalidSpan ?s_InvalidSpan_InvalidNumber ?s_InvalidSpan_InvalidHeight ?s_InvalidSpan_InvalidBudget ?s_InvalidSpan_InvalidOperation ?s_InvalidSpan_Nothing ?s_InvalidSpan_InvalidCommand ?k_InvalidNumber ?b_InvalidNumber ?g_InvalidNumber ?a_InvalidNumber ?d_InvalidNumber ?c_InvalidNumber ?m_InvalidNumber ?v_InvalidNumber ?l_InvalidNumber ?q_InvalidNumber ?s_InvalidNumber_InvalidSpans ?s_InvalidNumber_InvalidNodes ?s_InvalidNumber_InvalidBounds ?s_InvalidNumber_InvalidText ?s_InvalidNumber_OverBudget ?s_InvalidNumber_InvalidSize ?s_InvalidNumber_InvalidEntry ?s_InvalidNumber_InvalidNode ?s_InvalidNumber_InvalidSpan ?s_InvalidNumber_InvalidNumber ?s_InvalidNumber_InvalidHeight ?s_InvalidNumber_InvalidBudget ?s_InvalidNumber_InvalidOperation ?s_InvalidNumber_Nothing ?s_InvalidNumber_InvalidCommand ?k_InvalidHeight ?b_InvalidHeight ?g_InvalidHeight ?a_InvalidHeight ?d_InvalidHeight ?c_InvalidHeight ?m_InvalidHeight ?v_InvalidHeight ?l_InvalidHeight ?q_InvalidHeight ?s_InvalidHeight_InvalidSpans ?s_InvalidHeight_InvalidNodes ?s_InvalidHeight_InvalidBounds ?s_InvalidHeight_InvalidText ?s_InvalidHeight_OverBudget ?s_InvalidHeight_InvalidSize ?s_InvalidHeight_InvalidEntry ?s_InvalidHeight_InvalidNode ?s_InvalidHeight_InvalidSpan ?s_InvalidHeight_InvalidNumber ?s_InvalidHeight_InvalidHeight ?s_InvalidHeight_InvalidBudget ?s_InvalidHeight_InvalidOperation ?s_InvalidHeight_Nothing ?s_InvalidHeight_InvalidCommand ?k_InvalidBudget ?b_InvalidBudget ?g_InvalidBudget ?a_InvalidBudget ?d_InvalidBudget ?c_InvalidBudget ?m_InvalidBudget ?v_InvalidBudget ?l_InvalidBudget ?q_InvalidBudget ?s_InvalidBudget_InvalidSpans ?s_InvalidBudget_InvalidNodes ?s_InvalidBudget_InvalidBounds ?s_InvalidBudget_InvalidText ?s_InvalidBudget_OverBudget ?s_InvalidBudget_InvalidSize ?s_InvalidBudget_InvalidEntry ?s_InvalidBudget_InvalidNode ?s_InvalidBudget_InvalidSpan ?s_InvalidBudget_InvalidNumber ?s_InvalidBudget_InvalidHeight ?s_InvalidBudget_InvalidBudget ?s_InvalidBudget_InvalidOperation ?s_InvalidBudget_Nothing ?s_InvalidBudget_InvalidCommand ?k_InvalidOperation ?b_InvalidOperation ?g_InvalidOperation ?a_InvalidOperation ?d_InvalidOperation ?c_InvalidOperation ?m_InvalidOperation ?v_InvalidOperation ?l_InvalidOperation ?q_InvalidOperation ?s_InvalidOperation_InvalidSpans ?s_InvalidOperation_InvalidNodes ?s_InvalidOperation_InvalidBounds ?s_InvalidOperation_InvalidText ?s_InvalidOperation_OverBudget ?s_InvalidOperation_InvalidSize ?s_InvalidOperation_InvalidEntry ?s_InvalidOperation_InvalidNode ?s_InvalidOperation_InvalidSpan ?s_InvalidOperation_InvalidNumber ?s_InvalidOperation_InvalidHeight ?s_InvalidOperation_InvalidBudget ?s_InvalidOperation_InvalidOperation ?s_InvalidOperation_Nothing ?s_InvalidOperation_InvalidCommand ?k_Nothing ?b_Nothing ?g_Nothing ?a_Nothing ?d_Nothing ?c_Nothing ?m_Nothing ?v_Nothing ?l_Nothing ?q_Nothing ?s_Nothing_InvalidSpans ?s_Nothing_InvalidNodes ?s_Nothing_InvalidBounds ?s_Nothing_InvalidText ?s_Nothing_OverBudget ?s_Nothing_InvalidSize ?s_Nothing_InvalidEntry ?s_Nothing_InvalidNode ?s_Nothing_InvalidSpan ?s_Nothing_InvalidNumber ?s_Nothing_InvalidHeight ?s_Nothing_InvalidBudget ?s_Nothing_InvalidOperation ?s_Nothing_Nothing ?s_Nothing_InvalidCommand ?k_InvalidCommand ?b_InvalidCommand ?g_InvalidCommand ?a_InvalidCommand ?d_InvalidCommand ?c_InvalidCommand ?m_InvalidCommand ?v_InvalidCommand ?l_InvalidCommand ?q_InvalidCommand ?s_InvalidCommand_InvalidSpans ?s_InvalidCommand_InvalidNodes ?s_InvalidCommand_InvalidBounds ?s_InvalidCommand_InvalidText ?s_InvalidCommand_OverBudget ?s_InvalidCommand_InvalidSize ?s_InvalidCommand_InvalidEntry ?s_InvalidCommand_InvalidNode ?s_InvalidCommand_InvalidSpan ?s_InvalidCommand_InvalidNumber ?s_InvalidCommand_InvalidHeight ?s_InvalidCommand_InvalidBudget ?s_InvalidCommand_InvalidOperation ?s_InvalidCommand_Nothing ?s_InvalidCommand_InvalidCommand ?k_LogError ?b_LogError ?g_LogError ?a_LogError ?d_LogError ?c_LogError ?m_LogError ?v_LogError ?l_LogError ?q_LogError ?s_LogError_InvalidSpans ?s_LogError_InvalidNodes ?s_LogError_InvalidBounds ?s_LogError_InvalidText ?s_LogError_OverBudget ?s_LogError_InvalidSize ?s_LogError_InvalidEntry ?s_LogError_InvalidNode ?s_LogError_InvalidSpan ?s_LogError_InvalidNumber ?s_LogError_InvalidHeight ?s_LogError_InvalidBudget ?s_LogError_InvalidOperation ?s_LogError_Nothing ?s_LogError_InvalidCommand ?x_n ?x_t ?x_o ?x_s ?x_p ?o_InvalidSpans ?e_InvalidSpans ?f_InvalidSpans ?u_InvalidSpans ?w_InvalidSpans ?j_InvalidSpans ?o_InvalidNodes ?e_InvalidNodes ?f_InvalidNodes ?u_InvalidNodes ?w_InvalidNodes ?j_InvalidNodes ?o_InvalidBounds ?e_InvalidBounds ?f_InvalidBounds ?u_InvalidBounds ?w_InvalidBounds ?j_InvalidBounds ?o_InvalidText ?e_InvalidText ?f_InvalidText ?u_InvalidText ?w_InvalidText ?j_InvalidText ?o_OverBudget ?e_OverBudget ?f_OverBudget ?u_OverBudget ?w_OverBudget ?j_OverBudget
    (case a0 => k_is)
    (case l0 => k_is)
    (case c0 => k_is)
    (case k0 => k_is)
    (case a1 => k_is)
    (case l1 => k_is)
    (case c1 => k_is)
    (case k1 => k_is)
    (case a2 => k_is)
    (case l2 => k_is)
    (case c2 => k_is)
    (case k2 => k_is)
    (case a3 => k_is)
    (case l3 => k_is)
    (case c3 => k_is)
    (case k3 => k_is)
    (case a4 => k_is)
    (case l4 => k_is)
    (case c4 => k_is)
    (case k4 => k_is)
    (case z_ValueError => k_is)
    (case z_enumerate => k_is)
    (case z_int => k_is)
    (case z_isinstance => k_is)
    (case z_len => k_is)
    (case z_max => k_is)
    (case z_range => k_is)
    (case n_InvalidSpans => k_is)
    (case i_InvalidSpans => k_is)
    (case t_InvalidSpans => k_is)
    (case n_InvalidNodes => k_is)
    (case i_InvalidNodes => k_is)
    (case t_InvalidNodes => k_is)
    (case n_InvalidBounds => k_is)
    (case i_InvalidBounds => k_is)
    (case t_InvalidBounds => k_is)
    (case n_InvalidText => k_is)
    (case i_InvalidText => k_is)
    (case t_InvalidText => k_is)
    (case n_OverBudget => k_is)
    (case i_OverBudget => k_is)
    (case t_OverBudget => k_is)
    (case n_InvalidSize => k_is)
    (case i_InvalidSize => k_is)
    (case t_InvalidSize => k_is)
    (case n_InvalidEntry => k_is)
    (case i_InvalidEntry => k_is)
    (case t_InvalidEntry => k_is)
    (case n_InvalidNode => k_is)
    (case i_InvalidNode => k_is)
    (case t_InvalidNode => k_is)
    (case n_InvalidSpan => k_is)
    (case i_InvalidSpan => k_is)
    (case t_InvalidSpan => k_is)
    (case n_InvalidNumber => k_is)
    (case i_InvalidNumber => k_is)
    (case t_InvalidNumber => k_is)
    (case n_InvalidHeight => k_is)
    (case i_InvalidHeight => k_is)
    (case t_InvalidHeight => k_is)
    (case n_InvalidBudget => k_is)
    (case i_InvalidBudget => k_is)
    (case t_InvalidBudget => k_is)
    (case n_InvalidOperation => k_is)
    (case i_InvalidOperation => k_is)
    (case t_InvalidOperation => k_is)
    (case n_Nothing => k_is)
    (case i_Nothing => k_is)
    (case t_Nothing => k_is)
    (case n_InvalidCommand => k_is)
    (case i_InvalidCommand => k_is)
    (case t_InvalidCommand => k_is)
    (case n_LogError => k_is)
    (case i_LogError => k_is)
    (case t_LogError => k_is)
    (case k_InvalidSpans => k_is)
    (case b_InvalidSpans => k_is)
    (case g_InvalidSpans => k_is)
    (case a_InvalidSpans => k_is)
    (case d_InvalidSpans => k_is)
    (case c_InvalidSpans => k_is)
    (case m_InvalidSpans => k_is)
    (case v_InvalidSpans => k_is)
    (case l_InvalidSpans => k_is)
    (case s_InvalidSpans_InvalidSpans => k_is)
    (case s_InvalidSpans_InvalidNodes => k_is)
    (case s_InvalidSpans_InvalidBounds => k_is)
    (case s_InvalidSpans_InvalidText => k_is)
    (case s_InvalidSpans_OverBudget => k_is)
    (case s_InvalidSpans_InvalidSize => k_is)
    (case s_InvalidSpans_InvalidEntry => k_is)
    (case s_InvalidSpans_InvalidNode => k_is)
    (case s_InvalidSpans_InvalidSpan => k_is)
    (case s_InvalidSpans_InvalidNumber => k_is)
    (case s_InvalidSpans_InvalidHeight => k_is)
    (case s_InvalidSpans_InvalidBudget => k_is)
    (case s_InvalidSpans_InvalidOperation => k_is)
    (case s_InvalidSpans_Nothing => k_is)
    (case s_InvalidSpans_InvalidCommand => k_is)
    (case k_InvalidNodes => k_is)
    (case b_InvalidNodes => k_is)
    (case g_InvalidNodes => k_is)
    (case a_InvalidNodes => k_is)
    (case d_InvalidNodes => k_is)
    (case c_InvalidNodes => k_is)
    (case m_InvalidNodes => k_is)
    (case v_InvalidNodes => k_is)
    (case l_InvalidNodes => k_is)
    (case s_InvalidNodes_InvalidSpans => k_is)
    (case s_InvalidNodes_InvalidNodes => k_is)
    (case s_InvalidNodes_InvalidBounds => k_is)
    (case s_InvalidNodes_InvalidText => k_is)
    (case s_InvalidNodes_OverBudget => k_is)
    (case s_InvalidNodes_InvalidSize => k_is)
    (case s_InvalidNodes_InvalidEntry => k_is)
    (case s_InvalidNodes_InvalidNode => k_is)
    (case s_InvalidNodes_InvalidSpan => k_is)
    (case s_InvalidNodes_InvalidNumber => k_is)
    (case s_InvalidNodes_InvalidHeight => k_is)
    (case s_InvalidNodes_InvalidBudget => k_is)
    (case s_InvalidNodes_InvalidOperation => k_is)
    (case s_InvalidNodes_Nothing => k_is)
    (case s_InvalidNodes_InvalidCommand => k_is)
    (case k_InvalidBounds => k_is)
    (case b_InvalidBounds => k_is)
    (case g_InvalidBounds => k_is)
    (case a_InvalidBounds => k_is)
    (case d_InvalidBounds => k_is)
    (case c_InvalidBounds => k_is)
    (case m_InvalidBounds => k_is)
    (case v_InvalidBounds => k_is)
    (case l_InvalidBounds => k_is)
    (case s_InvalidBounds_InvalidSpans => k_is)
    (case s_InvalidBounds_InvalidNodes => k_is)
    (case s_InvalidBounds_InvalidBounds => k_is)
    (case s_InvalidBounds_InvalidText => k_is)
    (case s_InvalidBounds_OverBudget => k_is)
    (case s_InvalidBounds_InvalidSize => k_is)
    (case s_InvalidBounds_InvalidEntry => k_is)
    (case s_InvalidBounds_InvalidNode => k_is)
    (case s_InvalidBounds_InvalidSpan => k_is)
    (case s_InvalidBounds_InvalidNumber => k_is)
    (case s_InvalidBounds_InvalidHeight => k_is)
    (case s_InvalidBounds_InvalidBudget => k_is)
    (case s_InvalidBounds_InvalidOperation => k_is)
    (case s_InvalidBounds_Nothing => k_is)
    (case s_InvalidBounds_InvalidCommand => k_is)
    (case k_InvalidText => k_is)
    (case b_InvalidText => k_is)
    (case g_InvalidText => k_is)
    (case a_InvalidText => k_is)
    (case d_InvalidText => k_is)
    (case c_InvalidText => k_is)
    (case m_InvalidText => k_is)
    (case v_InvalidText => k_is)
    (case l_InvalidText => k_is)
    (case s_InvalidText_InvalidSpans => k_is)
    (case s_InvalidText_InvalidNodes => k_is)
    (case s_InvalidText_InvalidBounds => k_is)
    (case s_InvalidText_InvalidText => k_is)
    (case s_InvalidText_OverBudget => k_is)
    (case s_InvalidText_InvalidSize => k_is)
    (case s_InvalidText_InvalidEntry => k_is)
    (case s_InvalidText_InvalidNode => k_is)
    (case s_InvalidText_InvalidSpan => k_is)
    (case s_InvalidText_InvalidNumber => k_is)
    (case s_InvalidText_InvalidHeight => k_is)
    (case s_InvalidText_InvalidBudget => k_is)
    (case s_InvalidText_InvalidOperation => k_is)
    (case s_InvalidText_Nothing => k_is)
    (case s_InvalidText_InvalidCommand => k_is)
    (case k_OverBudget => k_is)
    (case b_OverBudget => k_is)
    (case g_OverBudget => k_is)
    (case a_OverBudget => k_is)
    (case d_OverBudget => k_is)
    (case c_OverBudget => k_is)
    (case m_OverBudget => k_is)
    (case v_OverBudget => k_is)
    (case l_OverBudget => k_is)
    (case s_OverBudget_InvalidSpans => k_is)
    (case s_OverBudget_InvalidNodes => k_is)
    (case s_OverBudget_InvalidBounds => k_is)
    (case s_OverBudget_InvalidText => k_is)
    (case s_OverBudget_OverBudget => k_is)
    (case s_OverBudget_InvalidSize => k_is)
    (case s_OverBudget_InvalidEntry => k_is)
    (case s_OverBudget_InvalidNode => k_is)
    (case s_OverBudget_InvalidSpan => k_is)
    (case s_OverBudget_InvalidNumber => k_is)
    (case s_OverBudget_InvalidHeight => k_is)
    (case s_OverBudget_InvalidBudget => k_is)
    (case s_OverBudget_InvalidOperation => k_is)
    (case s_OverBudget_Nothing => k_is)
    (case s_OverBudget_InvalidCommand => k_is)
    (case k_InvalidSize => k_is)
    (case b_InvalidSize => k_is)
    (case g_InvalidSize => k_is)
    (case a_InvalidSize => k_is)
    (case d_InvalidSize => k_is)
    (case c_InvalidSize => k_is)
    (case m_InvalidSize => k_is)
    (case v_InvalidSize => k_is)
    (case l_InvalidSize => k_is)
    (case q_InvalidSize => k_exc)
    (case s_InvalidSize_InvalidSpans => k_is)
    (case s_InvalidSize_InvalidNodes => k_is)
    (case s_InvalidSize_InvalidBounds => k_is)
    (case s_InvalidSize_InvalidText => k_is)
    (case s_InvalidSize_OverBudget => k_is)
    (case s_InvalidSize_InvalidSize => k_is)
    (case s_InvalidSize_InvalidEntry => k_is)
    (case s_InvalidSize_InvalidNode => k_is)
    (case s_InvalidSize_InvalidSpan => k_is)
    (case s_InvalidSize_InvalidNumber => k_is)
    (case s_InvalidSize_InvalidHeight => k_is)
    (case s_InvalidSize_InvalidBudget => k_is)
    (case s_InvalidSize_InvalidOperation => k_is)
    (case s_InvalidSize_Nothing => k_is)
    (case s_InvalidSize_InvalidCommand => k_is)
    (case k_InvalidEntry => k_is)
    (case b_InvalidEntry => k_is)
    (case g_InvalidEntry => k_is)
    (case a_InvalidEntry => k_is)
    (case d_InvalidEntry => k_is)
    (case c_InvalidEntry => k_is)
    (case m_InvalidEntry => k_is)
    (case v_InvalidEntry => k_is)
    (case l_InvalidEntry => k_is)
    (case q_InvalidEntry => k_exc)
    (case s_InvalidEntry_InvalidSpans => k_is)
    (case s_InvalidEntry_InvalidNodes => k_is)
    (case s_InvalidEntry_InvalidBounds => k_is)
    (case s_InvalidEntry_InvalidText => k_is)
    (case s_InvalidEntry_OverBudget => k_is)
    (case s_InvalidEntry_InvalidSize => k_is)
    (case s_InvalidEntry_InvalidEntry => k_is)
    (case s_InvalidEntry_InvalidNode => k_is)
    (case s_InvalidEntry_InvalidSpan => k_is)
    (case s_InvalidEntry_InvalidNumber => k_is)
    (case s_InvalidEntry_InvalidHeight => k_is)
    (case s_InvalidEntry_InvalidBudget => k_is)
    (case s_InvalidEntry_InvalidOperation => k_is)
    (case s_InvalidEntry_Nothing => k_is)
    (case s_InvalidEntry_InvalidCommand => k_is)
    (case k_InvalidNode => k_is)
    (case b_InvalidNode => k_is)
    (case g_InvalidNode => k_is)
    (case a_InvalidNode => k_is)
    (case d_InvalidNode => k_is)
    (case c_InvalidNode => k_is)
    (case m_InvalidNode => k_is)
    (case v_InvalidNode => k_is)
    (case l_InvalidNode => k_is)
    (case q_InvalidNode => k_exc)
    (case s_InvalidNode_InvalidSpans => k_is)
    (case s_InvalidNode_InvalidNodes => k_is)
    (case s_InvalidNode_InvalidBounds => k_is)
    (case s_InvalidNode_InvalidText => k_is)
    (case s_InvalidNode_OverBudget => k_is)
    (case s_InvalidNode_InvalidSize => k_is)
    (case s_InvalidNode_InvalidEntry => k_is)
    (case s_InvalidNode_InvalidNode => k_is)
    (case s_InvalidNode_InvalidSpan => k_is)
    (case s_InvalidNode_InvalidNumber => k_is)
    (case s_InvalidNode_InvalidHeight => k_is)
    (case s_InvalidNode_InvalidBudget => k_is)
    (case s_InvalidNode_InvalidOperation => k_is)
    (case s_InvalidNode_Nothing => k_is)
    (case s_InvalidNode_InvalidCommand => k_is)
    (case k_InvalidSpan => k_is)
    (case b_InvalidSpan => k_is)
    (case g_InvalidSpan => k_is)
    (case a_InvalidSpan => k_is)
    (case d_InvalidSpan => k_is)
    (case c_InvalidSpan => k_is)
    (case m_InvalidSpan => k_is)
    (case v_InvalidSpan => k_is)
    (case l_InvalidSpan => k_is)
    (case q_InvalidSpan => k_exc)
    (case s_InvalidSpan_InvalidSpans => k_is)
    (case s_InvalidSpan_InvalidNodes => k_is)
    (case s_InvalidSpan_InvalidBounds => k_is)
    (case s_InvalidSpan_InvalidText => k_is)
    (case s_InvalidSpan_OverBudget => k_is)
    (case s_InvalidSpan_InvalidSize => k_is)
    (case s_InvalidSpan_InvalidEntry => k_is)
    (case s_InvalidSpan_InvalidNode => k_is)
    (case s_InvalidSpan_InvalidSpan => k_is)
    (case s_InvalidSpan_InvalidNumber => k_is)
    (case s_InvalidSpan_InvalidHeight => k_is)
    (case s_InvalidSpan_InvalidBudget => k_is)
    (case s_InvalidSpan_InvalidOperation => k_is)
    (case s_InvalidSpan_Nothing => k_is)
    (case s_InvalidSpan_InvalidCommand => k_is)
    (case k_InvalidNumber => k_is)
    (case b_InvalidNumber => k_is)
    (case g_InvalidNumber => k_is)
    (case a_InvalidNumber => k_is)
    (case d_InvalidNumber => k_is)
    (case c_InvalidNumber => k_is)
    (case m_InvalidNumber => k_is)
    (case v_InvalidNumber => k_is)
    (case l_InvalidNumber => k_is)
    (case q_InvalidNumber => k_exc)
    (case s_InvalidNumber_InvalidSpans => k_is)
    (case s_InvalidNumber_InvalidNodes => k_is)
    (case s_InvalidNumber_InvalidBounds => k_is)
    (case s_InvalidNumber_InvalidText => k_is)
    (case s_InvalidNumber_OverBudget => k_is)
    (case s_InvalidNumber_InvalidSize => k_is)
    (case s_InvalidNumber_InvalidEntry => k_is)
    (case s_InvalidNumber_InvalidNode => k_is)
    (case s_InvalidNumber_InvalidSpan => k_is)
    (case s_InvalidNumber_InvalidNumber => k_is)
    (case s_InvalidNumber_InvalidHeight => k_is)
    (case s_InvalidNumber_InvalidBudget => k_is)
    (case s_InvalidNumber_InvalidOperation => k_is)
    (case s_InvalidNumber_Nothing => k_is)
    (case s_InvalidNumber_InvalidCommand => k_is)
    (case k_InvalidHeight => k_is)
    (case b_InvalidHeight => k_is)
    (case g_InvalidHeight => k_is)
    (case a_InvalidHeight => k_is)
    (case d_InvalidHeight => k_is)
    (case c_InvalidHeight => k_is)
    (case m_InvalidHeight => k_is)
    (case v_InvalidHeight => k_is)
    (case l_InvalidHeight => k_is)
    (case q_InvalidHeight => k_exc)
    (case s_InvalidHeight_InvalidSpans => k_is)
    (case s_InvalidHeight_InvalidNodes => k_is)
    (case s_InvalidHeight_InvalidBounds => k_is)
    (case s_InvalidHeight_InvalidText => k_is)
    (case s_InvalidHeight_OverBudget => k_is)
    (case s_InvalidHeight_InvalidSize => k_is)
    (case s_InvalidHeight_InvalidEntry => k_is)
    (case s_InvalidHeight_InvalidNode => k_is)
    (case s_InvalidHeight_InvalidSpan => k_is)
    (case s_InvalidHeight_InvalidNumber => k_is)
    (case s_InvalidHeight_InvalidHeight => k_is)
    (case s_InvalidHeight_InvalidBudget => k_is)
    (case s_InvalidHeight_InvalidOperation => k_is)
    (case s_InvalidHeight_Nothing => k_is)
    (case s_InvalidHeight_InvalidCommand => k_is)
    (case k_InvalidBudget => k_is)
    (case b_InvalidBudget => k_is)
    (case g_InvalidBudget => k_is)
    (case a_InvalidBudget => k_is)
    (case d_InvalidBudget => k_is)
    (case c_InvalidBudget => k_is)
    (case m_InvalidBudget => k_is)
    (case v_InvalidBudget => k_is)
    (case l_InvalidBudget => k_is)
    (case q_InvalidBudget => k_exc)
    (case s_InvalidBudget_InvalidSpans => k_is)
    (case s_InvalidBudget_InvalidNodes => k_is)
    (case s_InvalidBudget_InvalidBounds => k_is)
    (case s_InvalidBudget_InvalidText => k_is)
    (case s_InvalidBudget_OverBudget => k_is)
    (case s_InvalidBudget_InvalidSize => k_is)
    (case s_InvalidBudget_InvalidEntry => k_is)
    (case s_InvalidBudget_InvalidNode => k_is)
    (case s_InvalidBudget_InvalidSpan => k_is)
    (case s_InvalidBudget_InvalidNumber => k_is)
    (case s_InvalidBudget_InvalidHeight => k_is)
    (case s_InvalidBudget_InvalidBudget => k_is)
    (case s_InvalidBudget_InvalidOperation => k_is)
    (case s_InvalidBudget_Nothing => k_is)
    (case s_InvalidBudget_InvalidCommand => k_is)
    (case k_InvalidOperation => k_is)
    (case b_InvalidOperation => k_is)
    (case g_InvalidOperation => k_is)
    (case a_InvalidOperation => k_is)
    (case d_InvalidOperation => k_is)
    (case c_InvalidOperation => k_is)
    (case m_InvalidOperation => k_is)
    (case v_InvalidOperation => k_is)
    (case l_InvalidOperation => k_is)
    (case q_InvalidOperation => k_exc)
    (case s_InvalidOperation_InvalidSpans => k_is)
    (case s_InvalidOperation_InvalidNodes => k_is)
    (case s_InvalidOperation_InvalidBounds => k_is)
    (case s_InvalidOperation_InvalidText => k_is)
    (case s_InvalidOperation_OverBudget => k_is)
    (case s_InvalidOperation_InvalidSize => k_is)
    (case s_InvalidOperation_InvalidEntry => k_is)
    (case s_InvalidOperation_InvalidNode => k_is)
    (case s_InvalidOperation_InvalidSpan => k_is)
    (case s_InvalidOperation_InvalidNumber => k_is)
    (case s_InvalidOperation_InvalidHeight => k_is)
    (case s_InvalidOperation_InvalidBudget => k_is)
    (case s_InvalidOperation_InvalidOperation => k_is)
    (case s_InvalidOperation_Nothing => k_is)
    (case s_InvalidOperation_InvalidCommand => k_is)
    (case k_Nothing => k_is)
    (case b_Nothing => k_is)
    (case g_Nothing => k_is)
    (case a_Nothing => k_is)
    (case d_Nothing => k_is)
    (case c_Nothing => k_is)
    (case m_Nothing => k_is)
    (case v_Nothing => k_is)
    (case l_Nothing => k_is)
    (case q_Nothing => k_exc)
    (case s_Nothing_InvalidSpans => k_is)
    (case s_Nothing_InvalidNodes => k_is)
    (case s_Nothing_InvalidBounds => k_is)
    (case s_Nothing_InvalidText => k_is)
    (case s_Nothing_OverBudget => k_is)
    (case s_Nothing_InvalidSize => k_is)
    (case s_Nothing_InvalidEntry => k_is)
    (case s_Nothing_InvalidNode => k_is)
    (case s_Nothing_InvalidSpan => k_is)
    (case s_Nothing_InvalidNumber => k_is)
    (case s_Nothing_InvalidHeight => k_is)
    (case s_Nothing_InvalidBudget => k_is)
    (case s_Nothing_InvalidOperation => k_is)
    (case s_Nothing_Nothing => k_is)
    (case s_Nothing_InvalidCommand => k_is)
    (case k_InvalidCommand => k_is)
    (case b_InvalidCommand => k_is)
    (case g_InvalidCommand => k_is)
    (case a_InvalidCommand => k_is)
    (case d_InvalidCommand => k_is)
    (case c_InvalidCommand => k_is)
    (case m_InvalidCommand => k_is)
    (case v_InvalidCommand => k_is)
    (case l_InvalidCommand => k_is)
    (case q_InvalidCommand => k_exc)
    (case s_InvalidCommand_InvalidSpans => k_is)
    (case s_InvalidCommand_InvalidNodes => k_is)
    (case s_InvalidCommand_InvalidBounds => k_is)
    (case s_InvalidCommand_InvalidText => k_is)
    (case s_InvalidCommand_OverBudget => k_is)
    (case s_InvalidCommand_InvalidSize => k_is)
    (case s_InvalidCommand_InvalidEntry => k_is)
    (case s_InvalidCommand_InvalidNode => k_is)
    (case s_InvalidCommand_InvalidSpan => k_is)
    (case s_InvalidCommand_InvalidNumber => k_is)
    (case s_InvalidCommand_InvalidHeight => k_is)
    (case s_InvalidCommand_InvalidBudget => k_is)
    (case s_InvalidCommand_InvalidOperation => k_is)
    (case s_InvalidCommand_Nothing => k_is)
    (case s_InvalidCommand_InvalidCommand => k_is)
    (case k_LogError => k_is)
    (case b_LogError => k_is)
    (case g_LogError => k_is)
    (case a_LogError => k_is)
    (case d_LogError => k_is)
    (case c_LogError => k_is)
    (case m_LogError => k_is)
    (case v_LogError => k_is)
    (case l_LogError => k_is)
    (case q_LogError => k_exc)
    (case s_LogError_InvalidSpans => k_is)
    (case s_LogError_InvalidNodes => k_is)
    (case s_LogError_InvalidBounds => k_is)
    (case s_LogError_InvalidText => k_is)
    (case s_LogError_OverBudget => k_is)
    (case s_LogError_InvalidSize => k_is)
    (case s_LogError_InvalidEntry => k_is)
    (case s_LogError_InvalidNode => k_is)
    (case s_LogError_InvalidSpan => k_is)
    (case s_LogError_InvalidNumber => k_is)
    (case s_LogError_InvalidHeight => k_is)
    (case s_LogError_InvalidBudget => k_is)
    (case s_LogError_InvalidOperation => k_is)
    (case s_LogError_Nothing => k_is)
    (case s_LogError_InvalidCommand => k_is)
    (case x_n => k_is)
    (case x_t => k_is)
    (case x_o => k_is)
    (case x_s => k_is)
    (case x_p => rfl)
    (case o_InvalidSpans => exact ⟨_, _, _, _, _, _, _, _, _, _, _, _, _, _, _, by k_is, by decide +kernel⟩)
    (case e_InvalidSpans => k_is)
    (case f_InvalidSpans => k_is)
    (case u_InvalidSpans => kernel_rfl)
    (case w_InvalidSpans => k_is)
    (case j_InvalidSpans => exact ⟨_, _, _, _, _, _, _, _, _, _, _, _, _, _, _, _, _, _, _, _, by k_is, by k_is, by k_is, by k_is, by k_is, by k_is, by exact rfl, by exact rfl⟩)
    (case o_InvalidNodes => exact ⟨_, _, _, _, _, _, _, _, _, _, _, _, _, _, _, by k_is, by decide +kernel⟩)
    (case e_InvalidNodes => k_is)
    (case f_InvalidNodes => k_is)
    (case u_InvalidNodes => kernel_rfl)
    (case w_InvalidNodes => k_is)
    (case j_InvalidNodes => exact ⟨_, _, _, _, _, _, _, _, _, _, _, _, _, _, _, _, _, _, _, _, by k_is, by k_is, by k_is, by k_is, by k_is, by k_is, by exact rfl, by exact rfl⟩)
    (case o_InvalidBounds => exact ⟨_, _, _, _, _, _, _, _, _, _, _, _, _, _, _, by k_is, by decide +kernel⟩)
    (case e_InvalidBounds => k_is)
    (case f_InvalidBounds => k_is)
    (case u_InvalidBounds => kernel_rfl)
    (case w_InvalidBounds => k_is)
    (case j_InvalidBounds => exact ⟨_, _, _, _, _, _, _, _, _, _, _, _, _, _, _, _, _, _, _, _, by k_is, by k_is, by k_is, by k_is, by k_is, by k_is, by exact rfl, by exact rfl⟩)
    (case o_InvalidText => exact ⟨_, _, _, _, _, _, _, _, _, _, _, _, _, _, _, by k_is, by decide +kernel⟩)
    (case e_InvalidText => k_is)
    (case f_InvalidText => k_is)
    (case u_InvalidText => kernel_rfl)
    (case w_InvalidText => k_is)
    (case j_InvalidText => exact ⟨_, _, _, _, _, _, _, _, _, _, _, _, _, _, _, _, _, _, _, _, by k_is, by k_is, by k_is, by k_is, by k_is, by k_is, by exact rfl, by exact rfl⟩)
    (case o_OverBudget => exact ⟨_, _, _, _, _, _, _, _, _, _, _, _, _, _, _, by k_is, by decide +kernel⟩)
    (case e_OverBudget => k_is)
    (case f_OverBudget => k_is)
    (case u_OverBudget => kernel_rfl)
    (case w_OverBudget => k_is)
    (case j_OverBudget => exact ⟨_, _, _, _, _, _, _, _, _, _, _, _, _, _, _, _, _, _, _, _, by k_is, by k_is, by k_is, by k_is, by k_is, by k_is, by exact rfl, by exact rfl⟩)
