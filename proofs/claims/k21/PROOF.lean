import PyProof.Rows.All
import Wide.All
import OpenK.AllK
import Wide.FinOn
import HandS.ForMost
import HandS.Codes
import HandS.Wide
import HandS.TupAny
import HandS.TupMul
import HandS.Style
import HandS.Conv
import HandS.IsInst
import HandS.SortInts
import HandS.Evl
import PyProof.ReprBulk
import PyProof.ReprRoads
import HandS.Defaults
import HandS.Set
import HandS.Strs
import HandS.SetFor
import HandS.GenList
import HandS.Text
import KE.KSortTupG
import HandS.NamedTupSort
import KE.KDictSum
import KE.KDictCopyH
import HandS.DictTup
import HandS.WideBits
import HandS.Small
import PySem.Challenge.RW_spanrounds_k21_rows_numbered
set_option Elab.async false
set_option linter.all false
namespace Sx
/-! ### rows of spans: the plain facts -/
def g (xs : List Int) (i : Nat) : Int := xs.getD i 0
/-- the first place that a place covers -/
def fc (xs : List Int) (i : Nat) : Int := (i : Int) - g xs i + 1
structure Lam (xs : List Int) : Prop where
  lo : ∀ p, p < xs.length → 1 ≤ g xs p
  hi : ∀ p, p < xs.length → g xs p ≤ (p : Int) + 1
  nest : ∀ p j : Nat, p < xs.length → fc xs p ≤ (j : Int) → j < p → fc xs p ≤ fc xs j
theorem g_get {xs : List Int} {i : Nat} (h : i < xs.length) : xs[i]? = some (g xs i) := by
  unfold g
  rw [List.getD_eq_getElem?_getD, List.getElem?_eq_getElem h]
  rfl
/-- the first place behind that covers p -/
def parGo (xs : List Int) (p : Nat) : Nat → Nat → Option Nat
  | 0, _ => none
  | k + 1, b => if fc xs b ≤ (p : Int) then some b else parGo xs p k (b + 1)
def par (xs : List Int) (p : Nat) : Option Nat := parGo xs p (xs.length - (p + 1)) (p + 1)
theorem parGo_some {xs : List Int} {p : Nat} : ∀ {k b c : Nat}, parGo xs p k b = some c → b ≤ c ∧ c < b + k ∧ fc xs c ≤ (p : Int) ∧ ∀ j, b ≤ j → j < c → (p : Int) < fc xs j
  | 0, _, _, h => nomatch h
  | k + 1, b, c, h => by
    unfold parGo at h
    by_cases q : fc xs b ≤ (p : Int)
    · rw [if_pos q] at h
      cases h
      exact ⟨Nat.le_refl _, by omega, q, fun j h1 h2 => by omega⟩
    · rw [if_neg q] at h
      obtain ⟨h1, h2, h3, h4⟩ := parGo_some h
      refine ⟨by omega, by omega, h3, fun j h5 h6 => ?_⟩
      by_cases e : j = b
      · subst e; omega
      · exact h4 j (by omega) h6
theorem parGo_none {xs : List Int} {p : Nat} : ∀ {k b : Nat}, parGo xs p k b = none → ∀ j, b ≤ j → j < b + k → (p : Int) < fc xs j
  | 0, _, _, j, h1, h2 => by omega
  | k + 1, b, h, j, h1, h2 => by
    unfold parGo at h
    by_cases q : fc xs b ≤ (p : Int)
    · rw [if_pos q] at h
      cases h
    · rw [if_neg q] at h
      by_cases e : j = b
      · subst e; omega
      · exact parGo_none h j (by omega) (by omega)
theorem par_some {xs : List Int} {p c : Nat} : par xs p = some c ↔ p < c ∧ c < xs.length ∧ fc xs c ≤ (p : Int) ∧ ∀ j, p < j → j < c → (p : Int) < fc xs j := by
  constructor
  · intro h
    obtain ⟨h1, h2, h3, h4⟩ := parGo_some h
    exact ⟨by omega, by omega, h3, fun j h5 h6 => h4 j (by omega) h6⟩
  · rintro ⟨h1, h2, h3, h4⟩
    cases e : par xs p with
    | none =>
      have := parGo_none e c (by omega) (by omega)
      omega
    | some d =>
      obtain ⟨g1, g2, g3, g4⟩ := parGo_some e
      rcases Nat.lt_trichotomy c d with h | h | h
      · have := g4 c (by omega) h; omega
      · rw [h]
      · have := h4 d (by omega) h; omega
theorem par_none {xs : List Int} {p : Nat} : par xs p = none ↔ ∀ j, p < j → j < xs.length → (p : Int) < fc xs j := by
  constructor
  · intro h j h1 h2
    exact parGo_none h j (by omega) (by omega)
  · intro h
    cases e : par xs p with
    | none => rfl
    | some c =>
      obtain ⟨h1, h2, h3, _⟩ := par_some.mp e
      have := h c h1 h2
      omega

/-- from the back: p, the place in front of those that p covers, and so on down to first -/
def unc (xs : List Int) (first : Int) : Nat → Int → List Int
  | 0, _ => []
  | k + 1, p => if first ≤ p then unc xs first k (fc xs p.toNat - 1) ++ [p] else []
theorem unc_mem {xs : List Int} (L : Lam xs) {first : Int} (h0 : 0 ≤ first) : ∀ (k : Nat) (p : Int), p < (k : Int) → -1 ≤ p → p < xs.length →
    ∀ c : Int, c ∈ unc xs first k p ↔ first ≤ c ∧ c ≤ p ∧ ∀ j : Nat, c < (j : Int) → (j : Int) ≤ p → c < fc xs j
  | 0, p, h1, h2, h3, c => by
    constructor
    · intro h; exact nomatch h
    · rintro ⟨a, b, _⟩; omega
  | k + 1, p, h1, h2, h3, c => by
    unfold unc
    by_cases q : first ≤ p
    · rw [if_pos q]
      have hp : (p.toNat : Int) = p := by omega
      have hl : p.toNat < xs.length := by omega
      have a1 := L.lo _ hl
      have a2 := L.hi _ hl
      have e : fc xs p.toNat = p - g xs p.toNat + 1 := by unfold fc; omega
      have ih := unc_mem L h0 k (fc xs p.toNat - 1) (by omega) (by omega) (by omega) c
      rw [List.mem_append, List.mem_singleton, ih]
      constructor
      · rintro (⟨b1, b2, b3⟩ | b)
        · refine ⟨b1, by omega, fun j j1 j2 => ?_⟩
          by_cases hj : (j : Int) ≤ fc xs p.toNat - 1
          · exact b3 j j1 hj
          · by_cases he : j = p.toNat
            · subst he; omega
            · have := L.nest p.toNat j hl (by omega) (by omega)
              omega
        · subst b
          exact ⟨q, Int.le_refl _, fun j j1 j2 => by omega⟩
      · rintro ⟨b1, b2, b3⟩
        by_cases he : c = p
        · exact .inr he
        · refine .inl ⟨b1, ?_, fun j j1 j2 => b3 j j1 (by omega)⟩
          have := b3 p.toNat (by omega) (by omega)
          omega
    · rw [if_neg q]
      constructor
      · intro h; exact nomatch h
      · rintro ⟨a, b, _⟩; omega
theorem unc_lt {xs : List Int} (L : Lam xs) {first : Int} (h0 : 0 ≤ first) : ∀ (k : Nat) (p : Int), p < (k : Int) → -1 ≤ p → p < xs.length → (unc xs first k p).Pairwise (· < ·)
  | 0, p, h1, h2, h3 => .nil
  | k + 1, p, h1, h2, h3 => by
    unfold unc
    by_cases q : first ≤ p
    · rw [if_pos q]
      have hl : p.toNat < xs.length := by omega
      have a1 := L.lo _ hl
      have a2 := L.hi _ hl
      have e : fc xs p.toNat = p - g xs p.toNat + 1 := by unfold fc; omega
      refine List.pairwise_append.mpr ⟨unc_lt L h0 k _ (by omega) (by omega) (by omega), List.pairwise_singleton _ _, fun a ha b hb => ?_⟩
      rw [List.mem_singleton] at hb
      have := (unc_mem L h0 k _ (by omega) (by omega) (by omega) a).mp ha
      omega
    · rw [if_neg q]
      exact .nil
theorem sorted_ext : ∀ {l m : List Int}, l.Pairwise (· < ·) → m.Pairwise (· < ·) → (∀ c, c ∈ l ↔ c ∈ m) → l = m
  | [], [], _, _, _ => rfl
  | [], b :: m, _, _, h => nomatch (h b).mpr (List.mem_cons_self ..)
  | a :: l, [], _, _, h => nomatch (h a).mp (List.mem_cons_self ..)
  | a :: l, b :: m, h1, h2, h => by
    rw [List.pairwise_cons] at h1 h2
    have e : a = b := by
      rcases List.mem_cons.mp ((h a).mp (List.mem_cons_self ..)) with e | e
      · exact e
      · rcases List.mem_cons.mp ((h b).mpr (List.mem_cons_self ..)) with e' | e'
        · exact e'.symm
        · have := h1.1 b e'; have := h2.1 a e; omega
    subst e
    have : l = m := sorted_ext h1.2 h2.2 fun c => by
      have hc := h c
      rw [List.mem_cons, List.mem_cons] at hc
      constructor
      · intro hm
        rcases hc.mp (.inr hm) with e | e
        · subst e; have := h1.1 c hm; omega
        · exact e
      · intro hm
        rcases hc.mpr (.inr hm) with e | e
        · subst e; have := h2.1 c hm; omega
        · exact e
    rw [this]
/-- the places of 0 .. n - 1 with a property, as ints -/
def sel (n : Nat) (f : Nat → Bool) : List Int := ((List.range n).filter f).map Int.ofNat
theorem sel_lt (n : Nat) (f : Nat → Bool) : (sel n f).Pairwise (· < ·) := by
  unfold sel
  rw [List.pairwise_map]
  refine (List.pairwise_lt_range.filter _).imp fun h => ?_
  exact Int.ofNat_lt.mpr h
theorem sel_mem {n : Nat} {f : Nat → Bool} {c : Int} : c ∈ sel n f ↔ ∃ i : Nat, c = (i : Int) ∧ i < n ∧ f i = true := by
  unfold sel
  rw [List.mem_map]
  constructor
  · rintro ⟨i, h, rfl⟩
    rw [List.mem_filter, List.mem_range] at h
    exact ⟨i, rfl, h⟩
  · rintro ⟨i, rfl, h⟩
    exact ⟨i, by rw [List.mem_filter, List.mem_range]; exact h, rfl⟩
theorem kids {xs : List Int} (L : Lam xs) {p : Nat} (hp : p < xs.length) : unc xs (fc xs p) p ((p : Int) - 1) = sel xs.length (fun c => decide (par xs c = some p)) := by
  have a1 := L.lo _ hp
  have a2 := L.hi _ hp
  have e : fc xs p = p - g xs p + 1 := rfl
  refine sorted_ext (unc_lt L (by omega) _ _ (by omega) (by omega) (by omega)) (sel_lt _ _) fun c => ?_
  rw [unc_mem L (by omega) _ _ (by omega) (by omega) (by omega), sel_mem]
  constructor
  · rintro ⟨h1, h2, h3⟩
    refine ⟨c.toNat, by omega, by omega, decide_eq_true (par_some.mpr ⟨by omega, hp, by omega, fun j j1 j2 => ?_⟩)⟩
    have := h3 j (by omega) (by omega)
    omega
  · rintro ⟨i, rfl, h1, h2⟩
    obtain ⟨b1, b2, b3, b4⟩ := par_some.mp (of_decide_eq_true h2)
    exact ⟨b3, by omega, fun j j1 j2 => b4 j (by omega) (by omega)⟩
theorem tops {xs : List Int} (L : Lam xs) : unc xs 0 xs.length ((xs.length : Int) - 1) = sel xs.length (fun c => decide (par xs c = none)) := by
  refine sorted_ext (unc_lt L (by omega) _ _ (by omega) (by omega) (by omega)) (sel_lt _ _) fun c => ?_
  rw [unc_mem L (by omega) _ _ (by omega) (by omega) (by omega), sel_mem]
  constructor
  · rintro ⟨h1, h2, h3⟩
    refine ⟨c.toNat, by omega, by omega, decide_eq_true (par_none.mpr fun j j1 j2 => ?_)⟩
    have := h3 j (by omega) (by omega)
    omega
  · rintro ⟨i, rfl, h1, h2⟩
    have b := par_none.mp (of_decide_eq_true h2)
    exact ⟨by omega, by omega, fun j j1 j2 => b j (by omega) (by omega)⟩

/-! ### a forest that grows: ts the numbers of places of the roots, from the front -/
structure Gro (xs ts : List Int) : Prop where
  lam : Lam xs
  pos : ∀ t ∈ ts, 1 ≤ t
  sum : ts.sum = xs.length
  cut : ∀ k, k ≤ ts.length → ∀ j : Nat, j < xs.length → (ts.take k).sum ≤ (j : Int) → (ts.take k).sum ≤ fc xs j
theorem Gro.nil : Gro [] [] := ⟨⟨fun p h => (Nat.not_lt_zero p h).elim, fun p h => (Nat.not_lt_zero p h).elim, fun p _ h => (Nat.not_lt_zero p h).elim⟩, fun t h => (List.not_mem_nil h).elim, rfl, fun _ _ j h => (Nat.not_lt_zero j h).elim⟩
theorem sum_nonneg : ∀ {l : List Int}, (∀ t ∈ l, 1 ≤ t) → 0 ≤ l.sum
  | [], _ => Int.le_refl _
  | a :: l, h => by
    rw [List.sum_cons]
    have h1 := h a (List.mem_cons_self ..)
    have h2 := sum_nonneg (l := l) fun t ht => h t (List.mem_cons_of_mem _ ht)
    omega
theorem len_le_sum : ∀ {l : List Int}, (∀ t ∈ l, 1 ≤ t) → (l.length : Int) ≤ l.sum
  | [], _ => Int.le_refl _
  | a :: l, h => by
    rw [List.sum_cons, List.length_cons]
    have h1 := h a (List.mem_cons_self ..)
    have h2 := len_le_sum (l := l) fun t ht => h t (List.mem_cons_of_mem _ ht)
    omega
theorem g_app {xs : List Int} {e : Int} {i : Nat} (h : i < xs.length) : g (xs ++ [e]) i = g xs i := by
  unfold g
  rw [List.getD_eq_getElem?_getD, List.getElem?_append_left h, List.getD_eq_getElem?_getD]
theorem g_last {xs : List Int} {e : Int} : g (xs ++ [e]) xs.length = e := by
  unfold g
  rw [List.getD_eq_getElem?_getD, List.getElem?_append_right (Nat.le_refl _), Nat.sub_self]
  rfl
theorem Gro.grow {xs ts : List Int} (G : Gro xs ts) {k : Nat} (hk : k ≤ ts.length) {e : Int} (he : e = 1 + (ts.drop k).sum) : Gro (xs ++ [e]) (ts.take k ++ [e]) := by
  have hd : ∀ t ∈ ts.drop k, 1 ≤ t := fun t h => G.pos t (List.mem_of_mem_drop h)
  have ht : ∀ t ∈ ts.take k, 1 ≤ t := fun t h => G.pos t (List.mem_of_mem_take h)
  have n1 := sum_nonneg hd
  have n2 := sum_nonneg ht
  have hs : (ts.take k).sum + (ts.drop k).sum = xs.length := by
    rw [← List.sum_append, List.take_append_drop]; exact G.sum
  have hfe : fc (xs ++ [e]) xs.length = (ts.take k).sum := by
    unfold fc
    rw [g_last]
    omega
  have hfc : ∀ j : Nat, j < xs.length → fc (xs ++ [e]) j = fc xs j := fun j h => by unfold fc; rw [g_app h]
  have hlen : (xs ++ [e]).length = xs.length + 1 := by rw [List.length_append]; rfl
  refine ⟨⟨fun p hp => ?_, fun p hp => ?_, fun p j hp h1 h2 => ?_⟩, fun t h => ?_, ?_, fun m hm j hj h => ?_⟩
  · by_cases h : p < xs.length
    · rw [g_app h]; exact G.lam.lo p h
    · have e1 : p = xs.length := by omega
      subst e1
      rw [g_last]; omega
  · by_cases h : p < xs.length
    · rw [g_app h]; exact G.lam.hi p h
    · have e1 : p = xs.length := by omega
      subst e1
      rw [g_last]; omega
  · by_cases h : p < xs.length
    · rw [hfc p h] at h1 ⊢
      rw [hfc j (by omega)]
      exact G.lam.nest p j h h1 h2
    · have e1 : p = xs.length := by omega
      subst e1
      rw [hfe] at h1 ⊢
      rw [hfc j h2]
      exact G.cut k hk j h2 h1
  · rcases List.mem_append.mp h with h | h
    · exact ht t h
    · rw [List.mem_singleton] at h; omega
  · rw [List.sum_append, hlen]
    show (ts.take k).sum + (e + 0) = _
    omega
  · have hl : (ts.take k).length = k := by rw [List.length_take]; omega
    rw [List.length_append, hl] at hm
    by_cases hm' : m ≤ k
    · have e1 : (ts.take k ++ [e]).take m = ts.take m := by
        rw [List.take_append_of_le_length (by omega), List.take_take, Nat.min_eq_left hm']
      rw [e1] at h ⊢
      by_cases hj' : j < xs.length
      · rw [hfc j hj']
        exact G.cut m (by omega) j hj' h
      · have e2 : j = xs.length := by omega
        subst e2
        rw [hfe]
        have e3 : ts.take k = ts.take m ++ (ts.take k).drop m := by
          have := List.take_append_drop m (ts.take k)
          rw [List.take_take, Nat.min_eq_left hm'] at this
          exact this.symm
        have n3 := sum_nonneg (l := (ts.take k).drop m) fun t h => ht t (List.mem_of_mem_drop h)
        rw [e3, List.sum_append]
        omega
    · have e1 : (ts.take k ++ [e]).take m = ts.take k ++ [e] := List.take_of_length_le (by rw [List.length_append, hl]; simp only [List.length_cons, List.length_nil]; omega)
      rw [e1, List.sum_append] at h
      have : ([e] : List Int).sum = e := by show e + 0 = e; omega
      omega
theorem Gro.len {xs ts : List Int} (G : Gro xs ts) : ts.length ≤ xs.length := by
  have := len_le_sum G.pos
  have := G.sum
  omega
end Sx

set_option Elab.async false
set_option linter.all false
namespace Sx
/-! ### sums and products over the places below n -/
def smO (f : Nat → Nat) : Nat → Nat
  | 0 => 0
  | n + 1 => smO f n + f n
def prO (f : Nat → Nat) : Nat → Nat
  | 0 => 1
  | n + 1 => prO f n * f n
theorem smO_congr {f g : Nat → Nat} : ∀ {n : Nat}, (∀ i, i < n → f i = g i) → smO f n = smO g n
  | 0, _ => rfl
  | n + 1, h => by
    show smO f n + f n = smO g n + g n
    rw [smO_congr fun i hi => h i (by omega), h n (by omega)]
theorem prO_congr {f g : Nat → Nat} : ∀ {n : Nat}, (∀ i, i < n → f i = g i) → prO f n = prO g n
  | 0, _ => rfl
  | n + 1, h => by
    show prO f n * f n = prO g n * g n
    rw [prO_congr fun i hi => h i (by omega), h n (by omega)]
theorem smO_zero (n : Nat) : smO (fun _ => 0) n = 0 := by
  induction n with
  | zero => rfl
  | succ n ih => show smO (fun _ => 0) n + 0 = 0; rw [ih]
theorem smO_add (f g : Nat → Nat) (n : Nat) : smO (fun i => f i + g i) n = smO f n + smO g n := by
  induction n with
  | zero => rfl
  | succ n ih => show smO (fun i => f i + g i) n + (f n + g n) = (smO f n + f n) + (smO g n + g n); rw [ih]; omega
theorem smO_mul (c : Nat) (f : Nat → Nat) (n : Nat) : smO (fun i => f i * c) n = smO f n * c := by
  induction n with
  | zero => exact (Nat.zero_mul _).symm
  | succ n ih => show smO (fun i => f i * c) n + f n * c = (smO f n + f n) * c; rw [ih, Nat.add_mul]
theorem smO_swap (f : Nat → Nat → Nat) (m : Nat) : ∀ n, smO (fun i => smO (f i) m) n = smO (fun j => smO (fun i => f i j) n) m
  | 0 => (smO_zero m).symm
  | n + 1 => by
    show smO (fun i => smO (f i) m) n + smO (f n) m = smO (fun j => smO (fun i => f i j) n + f n j) m
    rw [smO_swap f m n, smO_add]
theorem smO_one {f : Nat → Nat} {n p : Nat} (hp : p < n) (h : ∀ i, i < n → i ≠ p → f i = 0) : smO f n = f p := by
  induction n with
  | zero => omega
  | succ n ih =>
    show smO f n + f n = f p
    by_cases e : p = n
    · subst e
      have : smO f p = smO (fun _ => 0) p := smO_congr fun i hi => h i (by omega) (by omega)
      rw [this, smO_zero, Nat.zero_add]
    · rw [ih (by omega) fun i hi => h i (by omega), h n (by omega) (fun q => e q.symm)]
      rfl
theorem smO_le {f g : Nat → Nat} {n : Nat} (h : ∀ i, i < n → f i ≤ g i) : smO f n ≤ smO g n := by
  induction n with
  | zero => exact Nat.le_refl _
  | succ n ih => exact Nat.add_le_add (ih fun i hi => h i (by omega)) (h n (by omega))
theorem smO_pos {f : Nat → Nat} {n p : Nat} (hp : p < n) (h : 0 < f p) : 0 < smO f n := by
  induction n with
  | zero => omega
  | succ n ih =>
    show 0 < smO f n + f n
    by_cases e : p = n
    · subst e; omega
    · have := ih (by omega); omega
theorem prO_pos {f : Nat → Nat} {n : Nat} (h : ∀ i, i < n → 0 < f i) : 0 < prO f n := by
  induction n with
  | zero => exact Nat.one_pos
  | succ n ih => exact Nat.mul_pos (ih fun i hi => h i (by omega)) (h n (by omega))
/-- one factor taken out -/
theorem prO_out {f g : Nat → Nat} {n p : Nat} (hp : p < n) (h : ∀ i, i < n → i ≠ p → g i = f i) (h1 : g p = 1) : prO f n = f p * prO g n := by
  induction n with
  | zero => omega
  | succ n ih =>
    show prO f n * f n = f p * (prO g n * g n)
    by_cases e : p = n
    · subst e
      rw [h1, Nat.mul_one, Nat.mul_comm, prO_congr fun i hi => h i (by omega) (by omega)]
    · rw [ih (by omega) fun i hi => h i (by omega), h n (by omega) (fun q => e q.symm), Nat.mul_assoc]
theorem smO_out {f g : Nat → Nat} {n p : Nat} (hp : p < n) (h : ∀ i, i < n → i ≠ p → g i = f i) (h1 : g p = 0) : smO f n = f p + smO g n := by
  induction n with
  | zero => omega
  | succ n ih =>
    show smO f n + f n = f p + (smO g n + g n)
    by_cases e : p = n
    · subst e
      rw [h1, Nat.add_zero, Nat.add_comm, smO_congr fun i hi => h i (by omega) (by omega)]
    · rw [ih (by omega) fun i hi => h i (by omega), h n (by omega) (fun q => e q.symm)]; omega
def fct : Nat → Nat
  | 0 => 1
  | n + 1 => (n + 1) * fct n
/-- of an indicator -/
def b2 (b : Bool) : Nat := if b = true then 1 else 0
theorem smO_b2 (f : Nat → Bool) (n : Nat) : smO (fun i => b2 (f i)) n = ((List.range n).filter f).length := by
  induction n with
  | zero => rfl
  | succ n ih =>
    show smO (fun i => b2 (f i)) n + b2 (f n) = _
    rw [ih, List.range_succ, List.filter_append, List.length_append]
    congr 1
    unfold b2
    by_cases c : f n = true
    · rw [if_pos c, List.filter_cons_of_pos c]; rfl
    · rw [if_neg c, List.filter_cons_of_neg c]; rfl

/-! ### stretches: which places stand in which -/
structure Str8 (n : Nat) (wi : Nat → Nat → Bool) : Prop where
  refl : ∀ p, p < n → wi p p = true
  trans : ∀ p q r, p < n → q < n → r < n → wi p q = true → wi q r = true → wi p r = true
  anti : ∀ p q, p < n → q < n → wi p q = true → wi q p = true → p = q
  tree : ∀ r p q, r < n → p < n → q < n → wi r p = true → wi r q = true → wi p q = true ∨ wi q p = true
section
variable {n : Nat} {wi : Nat → Nat → Bool}
/-- how many places stand in the stretch of q -/
def lnO (n : Nat) (wi : Nat → Nat → Bool) (q : Nat) : Nat := smO (fun r => b2 (wi r q)) n
theorem lnO_pos (S : Str8 n wi) {q : Nat} (hq : q < n) : 0 < lnO n wi q := smO_pos hq (by unfold b2; rw [if_pos (S.refl q hq)]; exact Nat.one_pos)
/-- the places that are not taken, u: all in their stretches are not taken either -/
def DnO (n : Nat) (wi : Nat → Nat → Bool) (u : Nat → Bool) : Prop := ∀ p q, p < n → q < n → u q = true → wi p q = true → u p = true
/-- a place that can come next -/
def avO (n : Nat) (wi : Nat → Nat → Bool) (u : Nat → Bool) (p : Nat) : Bool := u p && (List.range n).all fun q => q == p || !(u q && wi p q)
def remO (u : Nat → Bool) (p : Nat) : Nat → Bool := fun q => u q && !(q == p)
theorem avO_iff {u : Nat → Bool} {p : Nat} : avO n wi u p = true ↔ u p = true ∧ ∀ q, q < n → q ≠ p → u q = true → wi p q = true → False := by
  unfold avO
  rw [Bool.and_eq_true, List.all_eq_true]
  constructor
  · rintro ⟨h, k⟩
    refine ⟨h, fun q hq ne hu hw => ?_⟩
    have := k q (List.mem_range.mpr hq)
    rw [hu, hw, beq_false_of_ne ne] at this
    cases this
  · rintro ⟨h, k⟩
    refine ⟨h, fun q hq => ?_⟩
    by_cases e : q = p
    · subst e; rw [beq_self_eq_true]; rfl
    · rw [beq_false_of_ne e, Bool.false_or]
      cases hu : u q
      · rfl
      · cases hw : wi p q
        · rfl
        · exact (k q (List.mem_range.mp hq) e hu hw).elim
theorem remO_iff {u : Nat → Bool} {p q : Nat} : remO u p q = true ↔ u q = true ∧ q ≠ p := by
  unfold remO
  rw [Bool.and_eq_true, Bool.not_eq_true', beq_eq_false_iff_ne]
theorem DnO.remO {u : Nat → Bool} {p : Nat} (D : DnO n wi u) (ha : avO n wi u p = true) (hp : p < n) : DnO n wi (remO u p) := by
  intro a b ha' hb hu hw
  rw [remO_iff] at hu ⊢
  refine ⟨D a b ha' hb hu.1 hw, fun e => ?_⟩
  subst e
  exact (avO_iff.mp ha).2 b hb hu.2 hu.1 hw
/-- how many are not taken -/
def cnO (n : Nat) (u : Nat → Bool) : Nat := smO (fun i => b2 (u i)) n
theorem cnO_rem {u : Nat → Bool} {p : Nat} (hp : p < n) (h : u p = true) : cnO n u = cnO n (remO u p) + 1 := by
  unfold cnO
  rw [smO_out (f := fun i => b2 (u i)) (g := fun i => b2 (remO u p i)) hp]
  · show b2 (u p) + _ = _
    rw [show b2 (u p) = 1 by unfold b2; rw [if_pos h]]
    omega
  · intro i _ hi
    show b2 (remO u p i) = b2 (u i)
    congr 1
    unfold remO
    rw [beq_false_of_ne hi]
    exact Bool.and_true _
  · show b2 (remO u p p) = 0
    unfold remO
    rw [beq_self_eq_true]
    unfold b2
    rw [if_neg (by simp)]
/-- each place that is not taken stands in the stretch of one that can come next -/
theorem aboveO (S : Str8 n wi) {u : Nat → Bool} {r : Nat} (hr : r < n) (hu : u r = true) : ∃ p, p < n ∧ avO n wi u p = true ∧ wi r p = true := by
  suffices h : ∀ k q, q < n → u q = true → wi r q = true → n - lnO n wi q ≤ k → ∃ p, p < n ∧ avO n wi u p = true ∧ wi r p = true from h _ r hr hu (S.refl r hr) (Nat.le_refl _)
  intro k
  induction k with
  | zero =>
    intro q hq uq wq hk
    refine ⟨q, hq, avO_iff.mpr ⟨uq, fun t ht ne ut wt => ?_⟩, wq⟩
    -- q's stretch would be longer than all
    have h1 : lnO n wi q < lnO n wi t := by
      unfold lnO
      rw [smO_out (f := fun r => b2 (wi r t)) (g := fun r => b2 (wi r t && !(r == t))) ht]
      · refine Nat.lt_of_le_of_lt (smO_le (g := fun r => b2 (wi r t && !(r == t))) fun i hi => ?_) ?_
        · show b2 (wi i q) ≤ b2 (wi i t && !(i == t))
          by_cases c : wi i q = true
          · rw [S.trans i q t hi hq ht c wt]
            by_cases e : i = t
            · subst e; exact absurd (S.anti i q hi hq c wt) (fun e => ne e)
            · rw [beq_false_of_ne e]; unfold b2; split <;> simp
          · unfold b2; rw [if_neg c]; exact Nat.zero_le _
        · show _ < b2 (wi t t) + _
          rw [S.refl t ht]
          have : b2 true = 1 := rfl
          omega
      · intro i _ hi
        show b2 (wi i t && !(i == t)) = b2 (wi i t)
        rw [beq_false_of_ne hi]; congr 1; exact Bool.and_true _
      · show b2 (wi t t && !(t == t)) = 0
        rw [beq_self_eq_true, Bool.not_true, Bool.and_false]; rfl
    have h2 : lnO n wi t ≤ n := by
      unfold lnO
      rw [smO_b2]
      have := List.length_filter_le (fun i => wi i t) (List.range n)
      rwa [List.length_range] at this
    omega
  | succ k ih =>
    intro q hq uq wq hk
    by_cases c : avO n wi u q = true
    · exact ⟨q, hq, c, wq⟩
    · obtain ⟨t, ht, ne, ut, wt⟩ : ∃ t, t < n ∧ t ≠ q ∧ u t = true ∧ wi q t = true := by
        apply Classical.byContradiction
        intro hh
        exact c (avO_iff.mpr ⟨uq, fun t ht ne ut wt => hh ⟨t, ht, ne, ut, wt⟩⟩)
      refine ih t ht ut (S.trans r q t hr hq ht wq wt) ?_
      have h1 : lnO n wi q < lnO n wi t := by
        unfold lnO
        rw [smO_out (f := fun r => b2 (wi r t)) (g := fun r => b2 (wi r t && !(r == t))) ht]
        · refine Nat.lt_of_le_of_lt (smO_le (g := fun r => b2 (wi r t && !(r == t))) fun i hi => ?_) ?_
          · show b2 (wi i q) ≤ b2 (wi i t && !(i == t))
            by_cases c : wi i q = true
            · rw [S.trans i q t hi hq ht c wt]
              by_cases e : i = t
              · subst e; exact absurd (S.anti i q hi hq c wt) (fun e => ne e)
              · rw [beq_false_of_ne e]; unfold b2; split <;> simp
            · unfold b2; rw [if_neg c]; exact Nat.zero_le _
          · show _ < b2 (wi t t) + _
            rw [S.refl t ht]
            have : b2 true = 1 := rfl
            omega
        · intro i _ hi
          show b2 (wi i t && !(i == t)) = b2 (wi i t)
          rw [beq_false_of_ne hi]; congr 1; exact Bool.and_true _
        · show b2 (wi t t && !(t == t)) = 0
          rw [beq_self_eq_true, Bool.not_true, Bool.and_false]; rfl
      omega
/-- the stretches of those that can come next hold each place that is not taken once -/
theorem roots_sumO (S : Str8 n wi) {u : Nat → Bool} (D : DnO n wi u) : smO (fun p => if avO n wi u p = true then lnO n wi p else 0) n = cnO n u := by
  have e1 : smO (fun p => if avO n wi u p = true then lnO n wi p else 0) n = smO (fun p => smO (fun r => b2 (avO n wi u p && wi r p)) n) n := smO_congr fun p _ => by
    show (if avO n wi u p = true then lnO n wi p else 0) = smO (fun r => b2 (avO n wi u p && wi r p)) n
    by_cases c : avO n wi u p = true
    · rw [if_pos c]; unfold lnO; exact smO_congr fun r _ => by rw [c, Bool.true_and]
    · rw [if_neg c, ← smO_zero n]; exact smO_congr fun r _ => by
        rw [Bool.eq_false_iff.mpr c, Bool.false_and]; rfl
  rw [e1, smO_swap]
  unfold cnO
  refine smO_congr fun r hr => ?_
  show smO (fun p => b2 (avO n wi u p && wi r p)) n = b2 (u r)
  by_cases c : u r = true
  · obtain ⟨p, hp, ha, hw⟩ := aboveO S hr c
    rw [smO_one hp]
    · show b2 (avO n wi u p && wi r p) = _
      rw [ha, hw, c]; rfl
    · intro i hi ne
      show b2 (avO n wi u i && wi r i) = 0
      cases hai : avO n wi u i
      · rfl
      · cases hwi : wi r i
        · rfl
        · exfalso
          rcases S.tree r p i hr hp hi hw hwi with h | h
          · exact (avO_iff.mp ha).2 i hi ne (avO_iff.mp hai).1 h
          · exact (avO_iff.mp hai).2 p hp (fun e => ne e.symm) (avO_iff.mp ha).1 h
  · have : smO (fun p => b2 (avO n wi u p && wi r p)) n = smO (fun _ => 0) n := smO_congr fun p hp => by
      show b2 (avO n wi u p && wi r p) = 0
      cases hap : avO n wi u p
      · rfl
      · cases hwp : wi r p
        · rfl
        · exact absurd (D r p hr hp (avO_iff.mp hap).1 hwp) c
    rw [this, smO_zero, Bool.eq_false_iff.mpr c]; rfl

/-! ### the number of sequences -/
/-- in how many ways the places that are not taken, m of them, can come one after the other -/
def EO (n : Nat) (wi : Nat → Nat → Bool) : Nat → (Nat → Bool) → Nat
  | 0, _ => 1
  | m + 1, u => smO (fun p => if avO n wi u p = true then EO n wi m (remO u p) else 0) n
def puO (n : Nat) (wi : Nat → Nat → Bool) (u : Nat → Bool) : Nat := prO (fun q => if u q = true then lnO n wi q else 1) n
theorem puO_pos (S : Str8 n wi) (u : Nat → Bool) : 0 < puO n wi u := prO_pos fun i hi => by
  show 0 < if u i = true then lnO n wi i else 1
  split
  · exact lnO_pos S hi
  · exact Nat.one_pos
theorem puO_rem {u : Nat → Bool} {p : Nat} (hp : p < n) (h : u p = true) : puO n wi u = lnO n wi p * puO n wi (remO u p) := by
  unfold puO
  rw [prO_out (f := fun q => if u q = true then lnO n wi q else 1) (g := fun q => if remO u p q = true then lnO n wi q else 1) hp]
  · show (if u p = true then lnO n wi p else 1) * _ = _
    rw [if_pos h]
  · intro i _ hi
    show (if remO u p i = true then lnO n wi i else 1) = if u i = true then lnO n wi i else 1
    have : remO u p i = u i := by unfold remO; rw [beq_false_of_ne hi]; exact Bool.and_true _
    rw [this]
  · show (if remO u p p = true then lnO n wi p else 1) = 1
    rw [if_neg]
    intro h
    exact (remO_iff.mp h).2 rfl
theorem hookO (S : Str8 n wi) : ∀ (m : Nat) (u : Nat → Bool), DnO n wi u → cnO n u = m → EO n wi m u * puO n wi u = fct m
  | 0, u, D, hc => by
    have : puO n wi u = 1 := by
      unfold puO
      have h : ∀ i, i < n → u i = false := fun i hi => by
        cases c : u i
        · rfl
        · have := smO_pos (f := fun i => b2 (u i)) hi (by show 0 < b2 (u i); rw [c]; exact Nat.one_pos)
          unfold cnO at hc
          omega
      rw [prO_congr (g := fun _ => 1) fun i hi => by rw [h i hi]; rfl]
      clear hc D
      induction n with
      | zero => rfl
      | succ n ih => show prO (fun _ => 1) n * 1 = 1; rw [Nat.mul_one]; exact ih (S := ⟨fun p hp => S.refl p (by omega), fun p q r hp hq hr => S.trans p q r (by omega) (by omega) (by omega), fun p q hp hq => S.anti p q (by omega) (by omega), fun r p q hr hp hq => S.tree r p q (by omega) (by omega) (by omega)⟩) (fun i hi => h i (by omega))
    rw [this]; rfl
  | m + 1, u, D, hc => by
    show smO (fun p => if avO n wi u p = true then EO n wi m (remO u p) else 0) n * puO n wi u = (m + 1) * fct m
    rw [← smO_mul, ← hc, ← roots_sumO S D, ← smO_mul]
    refine smO_congr fun p hp => ?_
    show (if avO n wi u p = true then EO n wi m (remO u p) else 0) * puO n wi u = (if avO n wi u p = true then lnO n wi p else 0) * fct m
    by_cases c : avO n wi u p = true
    · have hu := (avO_iff.mp c).1
      have := hookO S m (remO u p) (D.remO c hp) (by have := cnO_rem hp hu; omega)
      rw [if_pos c, if_pos c, puO_rem hp hu, ← this, Nat.mul_left_comm]
    · rw [if_neg c, if_neg c, Nat.zero_mul, Nat.zero_mul]
/-- the shareO of a place -/
theorem shareO (S : Str8 n wi) {m : Nat} {u : Nat → Bool} {p : Nat} (D : DnO n wi u) (hc : cnO n u = m + 1) (hp : p < n) (ha : avO n wi u p = true) : EO n wi (m + 1) u * lnO n wi p = (m + 1) * EO n wi m (remO u p) := by
  have hu := (avO_iff.mp ha).1
  have h1 := hookO S (m + 1) u D hc
  have h2 := hookO S m (remO u p) (D.remO ha hp) (by have := cnO_rem hp hu; omega)
  rw [puO_rem hp hu] at h1
  have hp0 := puO_pos S (remO u p)
  refine Nat.eq_of_mul_eq_mul_right hp0 ?_
  rw [Nat.mul_assoc, h1, Nat.mul_assoc, h2]; rfl
theorem EO_pos (S : Str8 n wi) {m : Nat} {u : Nat → Bool} (D : DnO n wi u) (hc : cnO n u = m) : 0 < EO n wi m u := by
  have := hookO S m u D hc
  have hf : 0 < fct m := by
    clear this hc
    induction m with
    | zero => exact Nat.one_pos
    | succ m ih => exact Nat.mul_pos (Nat.succ_pos m) ih
  rcases Nat.eq_zero_or_pos (EO n wi m u) with e | e
  · rw [e, Nat.zero_mul] at this; omega
  · exact e
end
end Sx

set_option Elab.async false
set_option linter.all false
set_option maxRecDepth 100000
namespace Sx
open PySem PySem.Spec
open PyProof.Rows L2

/-! A def's promise where nothing is being shown (no repr is under way around it). -/
section
variable (P : Program) (w : World) (K : PySem.W.Frag) (mg : Str → Option Value) (base : Heap)
structure GOk (k : Nat) (f : Addr) (fd : FuncData) (ps : List Str) (sp : Sp) : Prop where
  arity : ∀ vs H Q E, sp vs H Q E → vs.length = ps.length
  go : ∀ (A : Around) (outer : List Env) (s : Shared) (H : Hp) (args : Args) (us : List Value) (vs : List V) (Q : VK) (E : XK),
    A.guards = some [] → Room k A → Env0 P w K mg base A outer s H → BindsTo s fd args (ps.zip us) → Vals vs us → sp vs H Q E →
    codeAny (model P w) A (.call (.ref f) args) (CR CX0 outer P w H s Q E) s
/-- a def that is called by its name -/
structure GCal (k : Nat) (x : Str) (sp : Sp) : Prop where
  ex : ∃ (f : Addr) (fd : FuncData) (ps : List Str), GOk P w K mg base k f fd ps sp ∧ mg x = some (.ref f) ∧
    PySem.W.keepIn K (.ref f) = true ∧ Binds K fd ps []
end
section
variable {P : Program} {w : World} {K : PySem.W.Frag} {mg : Str → Option Value} {base : Heap}
theorem GOk.of_fn {k : Nat} {f : Addr} {fd : FuncData} {ps : List Str} {sp : Sp} (F : FnOk P w K mg base CX0 k f fd ps sp) :
    GOk P w K mg base k f fd ps sp :=
  ⟨F.len, fun A o s H args us vs Q E _ => F.run A o s H args us vs Q E⟩

/-- the rule for such a def -/
theorem g_ok {x : Str} {st : Stmt} {f : Addr} {fd : FuncData} {N ps : List Str} {k : Nat} {sp : Sp}
    (F : Fun K x x st f fd) (S : FnScope N ps (defScope st)) (ar : ∀ vs H Q E, sp vs H Q E → vs.length = ps.length)
    (hb : ∀ (cdv : Value) (A : Around) (outer : List Env) (s : Shared) (H : Hp) (vs : List V) (Q : VK) (E : XK),
      A.guards = some [] → Room k (A.deeper (envOfC x (defScope st) s.heap.objs.size f cdv)) → sp vs H Q E →
      ∃ t, PSs (cxOf CX0 P w K mg base N x (defScope st) f cdv A outer s H E).nox (defBody st) t ∧
        t { nx := fun _ H' => Q .non H', rt := Q } (start N vs) H) :
    GOk P w K mg base (k + 1) f fd ps sp := by
  obtain ⟨oc, od, kV, doc, pm, an, cdv, ct, osl, rfl, lk, hcd⟩ := F.ex
  refine ⟨ar, fun A outer s H args us vs Q E hg hr e0 hbi r hsp => ?_⟩
  have old : ∀ b o, base.get? b = some o → s.heap.get? b = some o := fun b o e => (e0.bs b o e).1
  have KX := e0.mod.kin.keeps old
  refine codeAny_call_function hr.depth (KX _ _ lk) rfl S.co S.gen rfl (PySem.W.codeRec_of KX hcd) (hbi _ _ _ _ ?_)
  refine wpAny_newFunctionEnv_cells S.kind (fun y hy => ?_) fun env he s1 z => ?_
  · obtain ⟨n, v⟩ := y
    rcases S.par n (List.of_mem_zip hy).1 with q | q
    · exact .inl q
    · exact .inr ⟨q, PySem.W.cellsFrom_some _ _ _ (.inl q)⟩
  · subst he
    refine ⟨(e0.mod.nolimit.keeps old).keeps z.toInCall.keep, codeAny_func ?_⟩
    obtain ⟨t, ht, hq⟩ := hb cdv A outer s H vs Q E hg (hr.deeper _) hsp
    have I := inv_start (CX := CX0) (E := E) S hr.hd e0 (ar _ _ _ _ hsp) r z
    refine wpAny_mono (ht.nox.run [] s1 _ H _ I hq) (fun fl s' hs => ?_) fun e s' hs => hs
    cases fl with
    | ret u =>
      obtain ⟨v, σ', H', J, rv, q⟩ := hs
      exact ⟨v, H', J.os, J.bare, J.base, J.hok, rv, q⟩
    | next =>
      obtain ⟨σ', H', J, q⟩ := hs
      exact ⟨.non, H', J.os, J.bare, J.base, J.hok, rfl, q⟩
    | brk => obtain ⟨_, _, _, q⟩ := hs; exact q.elim
    | cont => obtain ⟨_, _, _, q⟩ := hs; exact q.elim
end

section
variable {X : Cx}
theorem run_g {pins : List (Addr × Obj)} {σ : L2.St} {H : Hp} {s : Shared} {Q : VK} {us : List Value} {vs : List V} {k : Nat} {f : Addr} {fd : FuncData} {ps : List Str} {sp : Sp}
    (F : GOk X.prog X.w X.K X.mg X.base k f fd ps sp) (hg : X.A.guards = some []) (hr : Room k X.A) (hb : Binds X.K fd ps [])
    (I : Inv X pins σ H s) (r : Vals vs us) (h : sp vs H Q E0) : wpAny (model X.prog X.w) X.A (call (.ref f) us) (EP X pins σ Q) X.xe s := by
  have hl : (us ++ ([] : List Value)).length = ps.length := by rw [List.append_nil, ← r.length]; exact F.arity _ _ _ _ h
  have hb' := hb s us I.kIn hl
  rw [List.append_nil] at hb'
  refine wpAny_call (codeAny_mono (F.go X.A X.stack s H ⟨us, []⟩ us vs Q E0 hg hr I.env0 hb' r h) fun res s' hq => ?_)
  match res, hq with
  | .error e, hq => exact hq.elim
  | .ok (.ret u), hq => exact I.after hq
/-- f(e, ..) -/
theorem pe_g {k j : Nat} {x : Str} {sp : Sp} {p pos : Pos} {e : Expr} {es : List Expr} {t : TA}
    (c : GCal X.prog X.w X.K X.mg X.base k x sp) (hG : X.A.guards = some []) (hr : Room j X.A) (hk : k ≤ j) (hg : Gl X x) (ha : PA X (e :: es) t)
    (hdb : (x == ("__debug__" : Str)) = false := by decide)
    (he : starEach (e :: es) X.env = (false, eval e X.env) :: starEach es X.env := by rfl)
    (hpl : (backTo pos (starEach es X.env)).any (·.1) = false := by rfl) :
    PE X (.Call (.Name x p) (e :: es) [] pos) (tCall sp [] E0 t) := by
  obtain ⟨f, fd, ps, F, hm, kp, b⟩ := c.ex
  refine ⟨fun pins s σ H Q I h => wpAny_Call_Name_kw (ld_glob I hg hm ?_ hdb)⟩
  refine PySem.W.callWith_K (h₀ := X.base) I.ok.mod.kin kp (thn (ha.run pos pins s σ H _ I h) fun us s1 ⟨vs, H1, I1, r, q⟩ => ⟨I1.kIn, ?_⟩) he hpl
  have q' : sp (vs ++ []) H1 Q E0 := q
  rw [List.append_nil] at q'
  exact run_g F hG (hr.mono hk) b I1 r q'
end

/-! ### the law's own call -/
section
variable {P : Program} {w : World} {K : PySem.W.Frag}
/-- what the abstract heap may hold ahead of the law: the script alone -/
def Lone (H : Hp) (a : Addr) : Prop := ∀ b, H b = none ∨ (b = a ∧ ∃ o xs, H b = some (.frz o (.lst xs)))
theorem law_g {mg mb : Str → Option Value} {k : Nat} {fa a : Addr} {fd : FuncData} {x : Str} {sp : Sp} {s1 : Shared} {vs : List Value} {ns : List Int}
    (KX : K.In s1.heap) (hn : s1.heap.Ns mainGlobals mg) (hb : s1.heap.Ns builtinsNs mb) (hbb : ∀ x : Str, x ≠ "__name__" → mb x = bootBuiltins x)
    (hlim : s1.heap.NoLimit) (hgen : s1.gens = #[]) (ha : s1.heap.get? a = some { cls := .type "list", data := .seq vs.toArray }) (hi : IntsAre vs ns)
    (hl : ns.length ≤ sizeLine) (hr : Room k callerA)
    (F : ∀ base : Heap, K.In base → base.Ns mainGlobals mg → GOk P w K mg base k fa fd [x] sp)
    (hbind : ∀ (s : Shared) (u : Value), BindsTo s fd ⟨[u], []⟩ [(x, u)])
    (hsp : ∀ H : Hp, Lone H a → SqL K H a (ns.map V.int) → sp [.ref a] H (fun v _ => v = .bl true) E0) :
    codeAny (model P w) callerA (.call (.ref fa) ⟨[.ref a], []⟩)
      (fun r s' => r = .ok (.ret (.bool true)) ∧ OldK s1.heap s'.heap ∧ s'.os = s1.os ∧ AllBare s'.gens) s1 := by
  have rv := vals_ints hi
  -- one abstract heap or the other
  suffices core : ∀ H : Hp, Lone H a → SqL K H a (ns.map V.int) → HOk P w H s1.heap → (H a ≠ none → K.lookup a = none) → _ by
    cases hk : K.lookup a with
    | some o =>
      have e := KX a o hk
      rw [ha] at e
      cases e
      refine core (fun _ => none) (fun _ => .inl rfl) (.inr ⟨_, vs.toArray, _, hk, rfl, rfl, rfl, ?_, by simpa using rv⟩) (fun b u z => nomatch z) fun z => (z rfl).elim
      rw [List.size_toArray, hi.length]
      exact hl
    | none =>
      refine core (fun b => if b = a then some (.frz { cls := .type "list", data := .seq vs.toArray } (.lst (ns.map V.int))) else none)
        (fun b => ?_) (.inl (.inr ⟨_, if_pos rfl⟩)) (fun b u z => ?_) fun _ => hk
      · by_cases h : b = a
        · exact .inr ⟨h, _, _, if_pos h⟩
        · exact .inl (if_neg h)
      · by_cases h : b = a
        · subst h
          cases (if_pos rfl).symm.trans z
          exact ⟨ha, by rw [List.length_map]; exact hl, vs, _, rv, ha⟩
        · exact nomatch (if_neg h).symm.trans z
  intro H hO hS hok hK
  have free : ∀ {b : Addr} {o : Obj}, s1.heap.get? b = some o → b ≠ a → H b = none := fun {b o} _ hne => by
    rcases hO b with z | ⟨z, _⟩
    · exact z
    · exact (hne z).elim
  have nsK : ∀ {b : Addr} {m : Str → Option Value}, s1.heap.Ns b m → (hidT s1.heap H).Ns b m := fun {b m} ⟨o, es, ep, e, d, r⟩ => by
    refine ⟨o, es, ep, hidT_get e (free e fun z => ?_), d, r⟩
    subst z
    rw [ha] at e
    cases e
    exact nomatch d
  have hKb : K.In (hidT s1.heap H) := fun b o e => hidT_get (KX b o e) (by
    cases q : H b with
    | none => rfl
    | some u =>
      rcases hO b with z | ⟨z, _⟩
      · rw [q] at z; cases z
      · subst z
        rw [hK (by rw [q]; simp)] at e
        cases e)
  have hM : Mod K mg (hidT s1.heap H) := ⟨hKb, nsK hn, ⟨mb, nsK hb, hbb⟩, let ⟨mc, h1, h2⟩ := hlim; ⟨mc, nsK h1, h2⟩⟩
  have e0 : Env0 P w K mg (hidT s1.heap H) callerA [] s1 H :=
    ⟨rfl, hM, fun b o e => of_hidT e, Nat.le_of_eq (hidT_size _ _), trivial, fun b h => (List.not_mem_nil h).elim, hok, .of_eq hgen⟩
  refine codeAny_mono ((F _ hKb (nsK hn)).go callerA [] s1 H _ [.ref a] [.ref a] _ _ rfl hr e0 (hbind s1 _) (.cons rfl .nil) (hsp H hO hS)) fun r s' h => ?_
  match r, h with
  | .error e, h => exact h.elim
  | .ok (.ret u), ⟨v, H', os, bare, un, hok', r', q⟩ =>
    have q' : v = .bl true := q
    subst q'
    obtain rfl : u = Value.bool true := r'
    refine ⟨rfl, OldK.of_keep fun b o e => ?_, os, bare⟩
    rcases hO b with z | ⟨z, ob, xs, z2⟩
    · exact un.keep b o e z (fun y => (List.not_mem_nil y).elim) (by simp)
    · obtain ⟨e1, _⟩ := hok b _ z2
      obtain ⟨e2, _⟩ := hok' b _ (un.frzs b ob _ z2)
      rw [e] at e1
      cases e1
      exact e2
/-- the goal that the head leaves -/
theorem walk_g {l : PySem.W.OpenLaw} {n k : Nat} {q : Program} {loose : List Str} {XP : (Str → Option Value) → Heap → Prop} {YP : World → Heap → Prop} {d : DefRec}
    {K : Params → PySem.W.Frag} {sp : PySem.W.Frag → Sp} {x : Str} (hn : l.most = some n) (hn2 : n ≤ sizeLine) (hdf : d.params.defaults = []) (hr : Room k callerA)
    (hY : ∀ (w : World) (h : Heap), YP w h → (K w.params).In h)
    (F : ∀ (w : World) (mg : Str → Option Value) (fa : Addr) (h : Heap), (K w.params).In h → h.Ns mainGlobals mg → mg d.name = some (.ref fa) →
      ∃ fd : FuncData, (∀ (s : Shared) (u : Value), BindsTo s fd ⟨[u], []⟩ [(x, u)]) ∧
        ∀ base : Heap, (K w.params).In base → base.Ns mainGlobals mg → GOk l.prog w (K w.params) mg base k fa fd [x] (sp (K w.params)))
    (hsp : ∀ (K : PySem.W.Frag) (H : Hp) (a : Addr) (ns : List Int), ns.length ≤ n → Lone H a → SqL K H a (ns.map V.int) → sp K [.ref a] H (fun v _ => v = .bl true) E0) :
    PySem.W.WalkO q loose XP YP l.row.toRowW d [] (fun f vs => PySem.call f vs) := by
  refine Att.attach_call hn hdf fun w s0 s1 mg mb fa o pm cd doc a vs ns G Y ho hd hcd hmg hobj hints hlen hg => ?_
  have KX := hY w _ Y
  obtain ⟨fd, hb, hF⟩ := F w mg fa _ KX G.T.g hmg
  exact law_g KX G.T.g G.T.b G.T.builtins G.T.nolimit hg hobj hints (Nat.le_trans hlen hn2) hr hF hb fun H hO hS => hsp _ H a ns hlen hO hS
end
end Sx

set_option Elab.async false
set_option linter.all false
set_option maxRecDepth 100000
namespace Sx
open PySem PySem.Spec
open PyProof.Rows L2

/-! ### further rules -/
def CPowW (i j : Int) : Prop := 0 ≤ j ∧ j ≤ 64 ∧ i.natAbs < 2 ^ 4000
section
variable {X : Cx}
theorem op_powW : OpR X (binaryOp .Pow) (rI CPowW fun i j => .int (i ^ j.toNat)) := opI fun i j _ _ _ _ _ hc q => by
  refine pow_int hc.1 ?_ q
  have hb : Builtin.Int.intBits i ≤ 4000 := by
    unfold Builtin.Int.intBits
    split
    · exact Nat.zero_le _
    · rename_i h
      have h0 : i.natAbs ≠ 0 := fun e => h (by rw [Int.natAbs_eq_zero.mp e]; rfl)
      exact (Nat.log2_lt h0).mpr hc.2.2
  have h1 : (Builtin.Int.intBits i : Int) * j ≤ 4000 * 64 :=
    Int.mul_le_mul (by omega) hc.2.1 hc.1 (by omega)
  exact Int.le_trans h1 (by decide)

/-- sum of a list or of a tuple of ints -/
def rSumA (K : PySem.W.Frag) : List V → Hp → VK → Prop := fun vs H Q =>
  ∃ (a : Addr) (ns : List Int), vs = [V.ref a] ∧ (SqL K H a (ns.map V.int) ∨ SqT K H a (ns.map V.int)) ∧ Q (.int ns.sum) H
theorem cr_sumA (hc : X.calm = true) : CallR X (.builtin "sum") (rSumA X.K) := by
  intro pins s σ H vs us Q I r h
  obtain ⟨a, ns, rfl, hs | hs, q⟩ := h
  · exact cr_sum hc pins s σ H _ us Q I r ⟨a, ns, rfl, hs, q⟩
  · obtain ⟨its, rv, hl, _⟩ := I.tuple hs
    rw [Vals.ref1 r]
    obtain ⟨xs, e⟩ := rv.ints.allInts.items
    have hn : numsOf (intItems xs).toList = ns := by rw [← e]; exact rv.ints.numsOf
    rw [nums_intItems] at hn
    rw [e] at hl
    have hlt : a < s.heap.objs.size := hl.lt
    refine call_sum_walkG (wpAny_pyIter_tuple hl ?_)
    have hne : a ≠ s.heap.objs.size := Nat.ne_of_lt hlt
    refine ⟨_, _, _, _, _, _, numAt xs, rfl, Walks.tuple (A := X.A.in1) (I.ok.hd hc) _ a hne (intItems xs),
      ⟨⟨_, Heap.get?_push_size _ rfl, rfl, rfl⟩, hl.keeps fun b o e => Heap.get?_push_of_some _ e⟩, fun b hb => ?_, (fun _ _ => intItems_at), fun h' tk t' hk => ?_⟩
    · show b < (s.heap.push _).objs.size
      rw [Heap.size_push]
      simp only [List.mem_cons, List.not_mem_nil, or_false] at hb
      rcases hb with e | e
      · rw [e]; exact Nat.lt_succ_self _
      · rw [e]; exact Nat.lt_succ_of_lt hlt
    · have e3 : preSum (numAt xs) (intItems xs).size = ns.sum := by
        have e2 : (intItems xs).size = xs.size := by simp [intItems]
        rw [e2, preSum_eq, List.take_of_length_le (by simp), hn]
      rw [e3]
      refine ⟨.int _, H, I.kept (fun b o eo => hk b o (fun hm => ?_) (Heap.get?_push_of_some _ eo)), ⟨t', rfl⟩, q⟩
      have z := Heap.lt_size eo
      rw [List.mem_singleton] at hm
      rw [hm] at z
      exact Nat.lt_irrefl _ z

mutual
theorem Dp.noDict {K : PySem.W.Frag} {H : Hp} : ∀ {v : V} {d : PyData}, Dp K H v d → d.hasDict = false
  | _, _, .non => by simp only [PyData.hasDict]
  | _, _, .bl _ => by simp only [PyData.hasDict]
  | _, _, .int _ => by simp only [PyData.hasDict]
  | _, _, .str _ => by simp only [PyData.hasDict]
  | _, _, .lst _ h => by simp only [PyData.hasDict]; exact DpAll.noDict h
  | _, _, .tup _ h => by simp only [PyData.hasDict]; exact DpAll.noDict h
theorem DpAll.noDict {K : PySem.W.Frag} {H : Hp} : ∀ {vs : List V} {ds : List PyData}, DpAll K H vs ds → PyData.hasDictAll ds = false
  | _, _, .nil => by simp only [PyData.hasDictAll]
  | _, _, .cons h t => by simp only [PyData.hasDictAll, Dp.noDict h, DpAll.noDict t, Bool.or_self]
end
/-- what may be shown -/
structure Shw (d : PyData) : Prop where
  ok : d.showable = true
  deep : d.depth ≤ 100
  size : d.shown.length ≤ sizeLine
/-- repr of data -/
def rReprD (K : PySem.W.Frag) : List V → Hp → VK → Prop := fun vs H Q =>
  ∃ v d, vs = [v] ∧ Dp K H v d ∧ Shw d ∧ Q (.str d.shown) H
theorem call_reprD {k : Nat} (hG : X.A.guards = some []) (hr : Room k X.A) : CallR X (.builtin "repr") (rReprD X.K) := by
  intro pins s σ H vs us Q I r h
  obtain ⟨v, d, rfl, hd, ⟨hs, hdp, hz⟩, q⟩ := h
  have hun := hr.un
  cases r with
  | cons ru rr =>
    cases rr
    rename_i u
    have big : ∀ (a : Addr), v = .ref a → d.hasDict = false → (∃ as, Reads s.heap (.ref a) d as) →
        wpAny (model X.prog X.w) X.A (call (.builtin "repr") [.ref a]) (EP X pins σ Q) X.xe s := by
      intro a _ hdi ⟨as, rd⟩
      exact repr_of_reads' rd hs (PyData.noDict_hsm hdi) hG (by omega) (fun _ _ e => e)
        (fun h' u tk hk => ⟨.str _, H, I.kept hk, ⟨_, rfl⟩, q⟩) hz
    cases hd with
    | non => cases (show u = Value.none from ru); exact PySem.P.repr_of_none ⟨.str _, H, I.tok _, ⟨_, rfl⟩, q⟩
    | bl b => cases (show u = Value.bool b from ru); exact PySem.P.repr_of_bool ⟨.str _, H, I.tok _, ⟨_, rfl⟩, q⟩
    | int i =>
      obtain ⟨t, e⟩ := (show ∃ t, u = Value.int i t from ru)
      cases e
      exact PySem.P.repr_of_int (by simpa [PyData.showable] using hs) ⟨.str _, H, I.tok _, ⟨_, rfl⟩, q⟩
    | str x =>
      obtain ⟨t, e⟩ := (show ∃ t, u = Value.str x t from ru)
      cases e
      exact PySem.P.repr_of_str ⟨.str _, H, I.tok _, ⟨_, rfl⟩, q⟩ hz
    | @lst a xs ds hl ha =>
      cases (show u = Value.ref a from ru)
      exact big a rfl (Sx.Dp.noDict (.lst hl ha)) (L2.Dp.reads I _ _ _ (.lst hl ha) rfl)
    | @tup a xs ds hl ha =>
      cases (show u = Value.ref a from ru)
      exact big a rfl (Sx.Dp.noDict (.tup hl ha)) (L2.Dp.reads I _ _ _ (.tup hl ha) rfl)
end
end Sx

set_option Elab.async false
set_option linter.all false
set_option maxRecDepth 100000
namespace Sx
open PySem PySem.Spec
open PyProof.Rows L2
/-- a def of the module under its name, with all its parameters given -/
structure DefAt (K : PySem.W.Frag) (mg : Str → Option Value) (x : Str) (st : Stmt) (ps : List Str) (f : Addr) (fd : FuncData) : Prop where
  fn : L2.Fun K x x st f fd
  at_ : mg x = some (.ref f)
  bi : Binds K fd ps []
section
variable {P : Program} {w : World} {K : PySem.W.Frag} {mg : Str → Option Value} {base : Heap} {x : Str} {st : Stmt} {N ps : List Str} {f : Addr} {fd : FuncData} {k : Nat} {sp : Sp}
theorem DefAt.cal (D : DefAt K mg x st ps f fd) (S : FnScope N ps (defScope st)) (ar : ∀ vs H Q E, sp vs H Q E → vs.length = ps.length)
    (hb : ∀ (cdv : Value) (A : Around) (outer : List Env) (s : Shared) (H : Hp) (vs : List V) (Q : VK) (E : XK),
      Room k (A.deeper (envOfC x (defScope st) s.heap.objs.size f cdv)) → sp vs H Q E →
      ∃ t, PSs (cxOf CX0 P w K mg base N x (defScope st) f cdv A outer s H E).nox (defBody st) t ∧
        t { nx := fun _ H' => Q .non H', rt := Q } (start N vs) H) : C8.Cal P w K mg base (k + 1) x sp [] :=
  ⟨f, fd, ps, [], D.fn.ok S ar hb, D.at_, D.fn.kp, D.bi, .nil⟩
theorem DefAt.gcal (D : DefAt K mg x st ps f fd) (S : FnScope N ps (defScope st)) (ar : ∀ vs H Q E, sp vs H Q E → vs.length = ps.length)
    (hb : ∀ (cdv : Value) (A : Around) (outer : List Env) (s : Shared) (H : Hp) (vs : List V) (Q : VK) (E : XK),
      A.guards = some [] → Room k (A.deeper (envOfC x (defScope st) s.heap.objs.size f cdv)) → sp vs H Q E →
      ∃ t, PSs (cxOf CX0 P w K mg base N x (defScope st) f cdv A outer s H E).nox (defBody st) t ∧
        t { nx := fun _ H' => Q .non H', rt := Q } (start N vs) H) : GCal P w K mg base (k + 1) x sp :=
  ⟨f, fd, ps, g_ok D.fn S ar hb, D.at_, D.fn.kp, D.bi⟩
end

abbrev Ex := Evl.Ex
/-- all but one list stays -/
def ExB (t : Addr) (H H' : Hp) : Prop := ∀ b o, b ≠ t → H b = some o → H' b = some o
theorem ExB.refl (t : Addr) (H : Hp) : ExB t H H := fun _ _ _ h => h
theorem ExB.of {t : Addr} {H H' : Hp} (e : Ex H H') : ExB t H H' := fun b o _ h => e b o h
theorem ExB.trans {t : Addr} {H H1 H2 : Hp} (a : ExB t H H1) (b : ExB t H1 H2) : ExB t H H2 := fun x o n h => b x o n (a x o n h)
theorem ExB.upd {t : Addr} {H : Hp} {o : HO} : ExB t H (upd H t o) := fun b u n h => by rw [upd_ne n]; exact h
theorem ExB.tup {K : PySem.W.Frag} {t a : Addr} {H H' : Hp} {xs ys : List V} (e : ExB t H H') (ht : H t = some (.lst ys)) (h : SqT K H a xs) : SqT K H' a xs := by
  rcases h with (h | ⟨o, h⟩) | h
  · exact .inl (.inl (e _ _ (ne_of h ht (by intro z; cases z)) h))
  · exact .inl (.inr ⟨o, e _ _ (ne_of h ht (by intro z; cases z)) h⟩)
  · exact .inr h
theorem atN {xs : List Int} {i : Nat} (h : i < xs.length) : atI (xs.map V.int) ((i : Nat) : Int) = some (.int (g xs i)) :=
  atI_nat (by rw [List.getElem?_map, g_get h]; rfl)
theorem atN' {xs : List Int} {i : Int} (h0 : 0 ≤ i) (h : i < xs.length) : atI (xs.map V.int) i = some (.int (g xs i.toNat)) := by
  have e : ((i.toNat : Nat) : Int) = i := by omega
  have := atN (xs := xs) (i := i.toNat) (by omega)
  rw [e] at this
  exact this
end Sx

set_option Elab.async false
set_option linter.all false
set_option maxRecDepth 100000
namespace Sx
open PySem PySem.Spec
open PyProof.Rows L2
/-! ### flat data and what is shown of it -/
def Fl (d : PyData) : Prop := d = .none ∨ ∃ i : Int, d = .int i ∧ i.natAbs.log2 < 1900
theorem Fl.all : ∀ {ds : List PyData}, (∀ d ∈ ds, Fl d) → PyData.showableAll ds = true ∧ PyData.depthAll ds = 0 ∧ PyData.leavesShortAll 1921 ds = true ∧ PyData.bulkAll ds = ds.length
  | [], _ => by simp [PyData.showableAll, PyData.depthAll, PyData.leavesShortAll, PyData.bulkAll]
  | d :: ds, h => by
    obtain ⟨h1, h2, h3, h4⟩ := Fl.all (ds := ds) fun e he => h e (List.mem_cons_of_mem _ he)
    rcases h d (List.mem_cons_self ..) with e | ⟨i, e, hi⟩
    · subst e
      simp [PyData.showableAll, PyData.depthAll, PyData.leavesShortAll, PyData.bulkAll, PyData.showable, PyData.depth, PyData.leavesShort, PyData.bulk, h1, h2, h3, h4]
      omega
    · subst e
      have hl : (PyData.shown (.int i)).length ≤ 1921 := int_text_len_1921 (by omega)
      have hl' : (Str.ofString (toString i)).length ≤ 1921 := hl
      simp [PyData.showableAll, PyData.depthAll, PyData.leavesShortAll, PyData.bulkAll, PyData.showable, PyData.depth, PyData.leavesShort, PyData.bulk, h1, h2, h3, h4, hl']
      omega
section
variable {K : PySem.W.Frag} {H : Hp} {p : Addr} {xs : List V} {ds : List PyData} {Q : VK}
theorem shw_l (hf : ∀ d ∈ ds, Fl d) (hn : ds.length ≤ 8000) : Shw (.list ds) := by
  obtain ⟨h1, h2, h3, h4⟩ := Fl.all hf
  refine ⟨by simp [PyData.showable, h1], by simp [PyData.depth, h2], ?_⟩
  have := PyData.shown_le_bulk 1921 (by decide) (.list ds) (by simp [PyData.leavesShort, h3])
  have e : (PyData.list ds).bulk = ds.length := by simp [PyData.bulk, h4]
  rw [e] at this
  exact Nat.le_trans this (Nat.le_trans (show _ ≤ 16000000 by omega) (by decide))
theorem shw_t (hf : ∀ d ∈ ds, Fl d) (hn : ds.length ≤ 8000) : Shw (.tuple ds) := by
  obtain ⟨h1, h2, h3, h4⟩ := Fl.all hf
  refine ⟨by simp [PyData.showable, h1], by simp [PyData.depth, h2], ?_⟩
  have := PyData.shown_le_bulk 1921 (by decide) (.tuple ds) (by simp [PyData.leavesShort, h3])
  have e : (PyData.tuple ds).bulk = ds.length := by simp [PyData.bulk, h4]
  rw [e] at this
  exact Nat.le_trans this (Nat.le_trans (show _ ≤ 16000000 by omega) (by decide))
theorem dp_ints : ∀ ns : List Int, DpAll K H (ns.map V.int) (ns.map PyData.int)
  | [] => .nil
  | n :: ns => .cons (.int n) (dp_ints ns)
theorem fl_ints {ns : List Int} (h : ∀ n ∈ ns, n.natAbs.log2 < 1900) : ∀ d ∈ ns.map PyData.int, Fl d := fun d hd => by
  obtain ⟨n, hn, rfl⟩ := List.mem_map.mp hd
  exact .inr ⟨n, rfl, h n hn⟩
theorem small_log {n : Int} (h0 : -1000000 ≤ n) (h : n ≤ 1000000) : n.natAbs.log2 < 1900 := by
  have := PySem.Flt.log2_lt_of (n := n.natAbs) (k := 64) (by decide) (by omega)
  omega
end
/-- a comprehension over enumerate of a list that stands still -/
theorem lc_enum {K : PySem.W.Frag} {a : Addr} {xs : List V} {g : TG} {tt : TT} {te : TE} {vs : List Nat} {σ : L2.St} {H1 : Hp} {D : Addr} {Qd : Hp → Prop}
    (Pv : Nat → Hp → Prop) (h0 : Pv 0 (upd H1 D (.lst [])))
    (hl : ∀ i H, Pv i H → SqL K H a xs)
    (hs : ∀ i x T H, xs[i]? = some x → Pv i H → H T = none →
      g (.ref T) (wipe σ vs) (upd H T (.tup [.int (i : Nat), x])) fun σ2 H2 =>
        wipe σ2 vs = wipe σ vs ∧ tt σ2 H2 fun b H3 =>
          if b = true then te σ2 H3 fun y H4 =>
            ∃ acc, H4 D = some (.lst acc) ∧ acc.length < sizeLine ∧ Pv (i + 1) (upd H4 D (.lst (acc ++ [y])))
          else Pv (i + 1) H3)
    (hd : ∀ H, Pv xs.length H → Qd H) :
    ∃ W : Nat → Nat → Hp → Prop, (∃ m, W 0 m (upd H1 D (.lst []))) ∧ ∀ i m H, W i m H →
      ((Ite K a).stop i H ∧ Qd H) ∨
      ((Ite K a).go i H ∧ ∃ Nx : Hp → Prop, (∀ H', Nx H' → ∃ m', m' < m ∧ W (i + 1) m' H') ∧ ∀ x H', (Ite K a).yld i H x H' →
        g x (wipe σ vs) H' fun σ2 H2 =>
          wipe σ2 vs = wipe σ vs ∧ tt σ2 H2 fun b H3 =>
            if b = true then te σ2 H3 fun y H4 =>
              ∃ acc, H4 D = some (.lst acc) ∧ acc.length < sizeLine ∧ Nx (upd H4 D (.lst (acc ++ [y])))
            else Nx H3) := by
  refine ⟨fun i m H => i + m = xs.length ∧ Pv i H, ⟨xs.length, by omega, h0⟩, fun i m H ⟨e, p⟩ => ?_⟩
  have q := hl i H p
  by_cases hi : i < xs.length
  · refine .inr ⟨⟨xs, xs[i], q, List.getElem?_eq_getElem hi⟩, Pv (i + 1), fun H' p' => ⟨m - 1, by omega, by omega, p'⟩, ?_⟩
    rintro x H' ⟨T, y, rfl, hT, rfl, hy⟩
    exact hs i y T H (hy xs q) p hT
  · have : i = xs.length := by omega
    subst this
    exact .inl ⟨⟨xs, q, Nat.le_refl _⟩, hd H p⟩
theorem sel_zero (f : Nat → Bool) : sel 0 f = [] := rfl
theorem sel_succ (n : Nat) (f : Nat → Bool) : sel (n + 1) f = sel n f ++ (if f n = true then [(n : Int)] else []) := by
  unfold sel
  rw [List.range_succ, List.filter_append, List.map_append]
  congr 1
  by_cases h : f n = true
  · rw [if_pos h, List.filter_cons_of_pos h]; rfl
  · rw [if_neg h, List.filter_cons_of_neg h]; rfl
theorem sel_len (n : Nat) (f : Nat → Bool) : (sel n f).length ≤ n := by
  unfold sel
  rw [List.length_map]
  exact Nat.le_trans (List.length_filter_le _ _) (Nat.le_of_eq List.length_range)
theorem sel_bound {n : Nat} {f : Nat → Bool} {c : Int} (h : c ∈ sel n f) : 0 ≤ c ∧ c < n := by
  obtain ⟨i, rfl, h1, _⟩ := sel_mem.mp h
  omega
end Sx
namespace Sx
open PySem PySem.Spec
open PyProof.Rows L2
section
variable {P : Program} {w : World} {K : PySem.W.Frag} {mg : Str → Option Value} {base : Heap}
theorem tyT {K : PySem.W.Frag} {H : Hp} {a : Addr} {xs : List V} (h : SqT K H a xs) : TyX K H (.ref a) (.type "tuple") := by
  rcases h with (h | ⟨o, h⟩) | h
  · exact .base (.tup h)
  · exact .fTuple h
  · obtain ⟨o, its, n, h1, h2, _⟩ := h
    exact .kTuple h1 h2
def ov : Option Nat → V
  | none => .non
  | some i => .int i
theorem p4000 {n : Nat} (h : n < 2 ^ 200) : n < 2 ^ 4000 := Nat.lt_of_lt_of_le h (Nat.pow_le_pow_right (show 0 < 2 by decide) (show 200 ≤ 4000 by decide))
/-- the state of the draws, m: the most draws so far -/
def Tub (H : Hp) (t : Addr) (m : Int) : Prop := ∃ x0 x1 x2 : Int, H t = some (.lst [.int x0, .int x1, .int x2]) ∧ 0 ≤ x1 ∧ x1 < 10 ^ 40 ∧ 0 ≤ x2 ∧ x2 ≤ m
theorem Tub.ex {H H' : Hp} {t : Addr} {m : Int} (T : Tub H t m) (e : Ex H H') : Tub H' t m := by
  obtain ⟨x0, x1, x2, h, r⟩ := T
  exact ⟨x0, x1, x2, e _ _ h, r⟩
theorem Tub.le {H : Hp} {t : Addr} {m n : Int} (T : Tub H t m) (h : m ≤ n) : Tub H t n := by
  obtain ⟨x0, x1, x2, h1, h2, h3, h4, h5⟩ := T
  exact ⟨x0, x1, x2, h1, h2, h3, h4, by omega⟩
theorem Tub.exB {H H' : Hp} {t b : Addr} {m : Int} (T : Tub H t m) (e : ExB b H H') (n : t ≠ b) : Tub H' t m := by
  obtain ⟨x0, x1, x2, h, r⟩ := T
  exact ⟨x0, x1, x2, e _ _ n h, r⟩
theorem Tub.get {H : Hp} {t : Addr} {m : Int} (T : Tub H t m) : ∃ xs, H t = some (.lst xs) := by
  obtain ⟨x0, x1, x2, h, r⟩ := T
  exact ⟨_, h⟩
theorem cut_drop (xs : List V) (k : Nat) : cutV xs (some (k : Int)) none = xs.drop k := by
  unfold cutV
  rw [HT.sIx_nat, HT.sIx_none]
  by_cases h : k ≤ xs.length
  · rw [Nat.min_eq_left h]
    exact List.take_of_length_le (by rw [List.length_drop]; exact Nat.le_refl _)
  · rw [Nat.min_eq_right (by omega), Nat.sub_self, List.take_zero, List.drop_of_length_le (by omega)]
theorem cut_take (xs : List V) (k : Nat) : cutV xs none (some (k : Int)) = xs.take k := by
  unfold cutV
  rw [HT.sIx_nat, HT.sIx_none, List.drop_zero, Nat.sub_zero]
  by_cases h : k ≤ xs.length
  · rw [Nat.min_eq_left h]
  · rw [Nat.min_eq_right (by omega), List.take_length, List.take_of_length_le (by omega)]
theorem at3 {x y z lo hi r : Int} (r0 : 0 ≤ r) (r1 : r < 3) (hx : lo ≤ x ∧ x ≤ hi) (hy : lo ≤ y ∧ y ≤ hi) (hz : lo ≤ z ∧ z ≤ hi) :
    ∃ v : Int, atI [V.int x, V.int y, V.int z] r = some (.int v) ∧ lo ≤ v ∧ v ≤ hi := by
  rcases (show r = 0 ∨ r = 1 ∨ r = 2 by omega) with e | e | e <;> subst e
  · exact ⟨x, rfl, hx⟩
  · exact ⟨y, rfl, hy⟩
  · exact ⟨z, rfl, hz⟩
theorem at7 {x1 x2 x3 x4 x5 x6 x7 hi r : Int} (r0 : 0 ≤ r) (r1 : r < 7) (h1 : 0 ≤ x1 ∧ x1 ≤ hi) (h2 : 0 ≤ x2 ∧ x2 ≤ hi) (h3 : 0 ≤ x3 ∧ x3 ≤ hi) (h4 : 0 ≤ x4 ∧ x4 ≤ hi) (h5 : 0 ≤ x5 ∧ x5 ≤ hi) (h6 : 0 ≤ x6 ∧ x6 ≤ hi) (h7 : 0 ≤ x7 ∧ x7 ≤ hi) :
    ∃ v : Int, atI [V.int x1, V.int x2, V.int x3, V.int x4, V.int x5, V.int x6, V.int x7] r = some (.int v) ∧ 0 ≤ v ∧ v ≤ hi := by
  rcases (show r = 0 ∨ r = 1 ∨ r = 2 ∨ r = 3 ∨ r = 4 ∨ r = 5 ∨ r = 6 by omega) with e | e | e | e | e | e | e <;> subst e
  · exact ⟨x1, rfl, h1⟩
  · exact ⟨x2, rfl, h2⟩
  · exact ⟨x3, rfl, h3⟩
  · exact ⟨x4, rfl, h4⟩
  · exact ⟨x5, rfl, h5⟩
  · exact ⟨x6, rfl, h6⟩
  · exact ⟨x7, rfl, h7⟩
theorem min_in {a b lo hi : Int} (h1 : lo ≤ a) (h2 : lo ≤ b) (h : a ≤ hi) : lo ≤ (if b < a then b else a) ∧ (if b < a then b else a) ≤ hi := by
  split <;> omega
theorem p1000 {n : Int} (h : n ≤ 1000000) : n < 2 ^ 1000 := by
  refine Int.lt_of_lt_of_le (show n < 2 ^ 64 by omega) ?_
  have e1 : (2 : Int) ^ 64 = ((2 ^ 64 : Nat) : Int) := by decide
  have e2 : (2 : Int) ^ 1000 = ((2 ^ 1000 : Nat) : Int) := by norm_cast
  rw [e1, e2]
  exact Int.ofNat_le.mpr (Nat.pow_le_pow_right (by decide) (by decide))
theorem slA_drop {H : Hp} {c : Addr} {xs : List V} {k : Nat} {Q : VK} (hS : SqT K H c xs) (q : ∀ a' H', Ex H H' → SqT K H' a' (xs.drop k) → Q (.ref a') H') : rSlA K (.ref c) (some (k : Int)) none H Q := by
  refine ⟨c, xs, rfl, hS, fun hw => ?_, fun _ p hp => q p _ (Evl.Ex.new hp) (SqT.of (by rw [upd_same, cut_drop]))⟩
  have e : xs.drop k = xs := by
    have h := hw.1
    rw [HT.sIx_nat] at h
    rcases Nat.min_eq_zero_iff.mp h with e | e
    · rw [e]; rfl
    · rw [List.length_eq_zero_iff.mp e]; exact List.drop_nil
  exact q c H (Evl.Ex.refl H) (by rw [e]; exact hS)
theorem slA_take {H : Hp} {c : Addr} {xs : List V} {k : Nat} {Q : VK} (hS : SqT K H c xs) (q : ∀ a' H', Ex H H' → SqT K H' a' (xs.take k) → Q (.ref a') H') : rSlA K (.ref c) none (some (k : Int)) H Q := by
  refine ⟨c, xs, rfl, hS, fun hw => ?_, fun _ p hp => q p _ (Evl.Ex.new hp) (SqT.of (by rw [upd_same, cut_take]))⟩
  have e : xs.take k = xs := by
    have h := hw.2
    rw [HT.sIx_nat] at h
    exact List.take_of_length_le (by omega)
  exact q c H (Evl.Ex.refl H) (by rw [e]; exact hS)
theorem catA {H : Hp} {a b : Addr} {xs ys : List V} {Q : VK} (h1 : SqT K H a xs) (h2 : SqT K H b ys) (hz : xs.length + ys.length ≤ 1000) (q : ∀ p H', Ex H H' → SqT K H' p (xs ++ ys) → Q (.ref p) H') : rCatA K (.ref a) (.ref b) H Q := by
  refine ⟨a, b, xs, ys, rfl, rfl, h1, h2, Nat.le_of_lt (small1000 hz), fun e => ?_, fun _ e => ?_, fun _ _ p hp => q p _ (Evl.Ex.new hp) (SqT.of upd_same)⟩
  · subst e
    exact q b H (Evl.Ex.refl H) h2
  · subst e
    exact q a H (Evl.Ex.refl H) (by rw [List.append_nil]; exact h1)

/-- a row of n entries with its roots -/
def Node (K : PySem.W.Frag) (H : Hp) (n : Nat) (v : V) : Prop := ∃ a b c, ∃ xs ts : List Int, v = .ref a ∧ SqT K H a [.ref b, .ref c] ∧ SqT K H b (xs.map V.int) ∧ SqT K H c (ts.map V.int) ∧ Gro xs ts ∧ xs.length = n
theorem Node.ex {H H' : Hp} {n : Nat} {v : V} (e : Ex H H') (h : Node K H n v) : Node K H' n v := by
  obtain ⟨a, b, c, xs, ts, h1, h2, h3, h4, h5⟩ := h
  exact ⟨a, b, c, xs, ts, h1, Evl.ex_t e h2, Evl.ex_t e h3, Evl.ex_t e h4, h5⟩
theorem Node.exB {H H' : Hp} {n : Nat} {v : V} {t : Addr} {ys : List V} (e : ExB t H H') (ht : H t = some (.lst ys)) (h : Node K H n v) : Node K H' n v := by
  obtain ⟨a, b, c, xs, ts, h1, h2, h3, h4, h5⟩ := h
  exact ⟨a, b, c, xs, ts, h1, e.tup ht h2, e.tup ht h3, e.tup ht h4, h5⟩
/-- a row of n entries -/
def Row1 (K : PySem.W.Frag) (H : Hp) (n : Nat) (v : V) : Prop := ∃ a, ∃ xs : List Int, v = .ref a ∧ SqT K H a (xs.map V.int) ∧ Lam xs ∧ xs.length = n
theorem Row1.ex {H H' : Hp} {n : Nat} {v : V} (e : Ex H H') (h : Row1 K H n v) : Row1 K H' n v := by
  obtain ⟨a, xs, h1, h2, h3⟩ := h
  exact ⟨a, xs, h1, Evl.ex_t e h2, h3⟩
def pd : Option Nat → PyData
  | none => .none
  | some i => .int i
theorem dp_ov {H : Hp} (f : Nat → Option Nat) : ∀ l : List Nat, DpAll K H (l.map fun i => ov (f i)) (l.map fun i => pd (f i))
  | [] => .nil
  | i :: l => by
    refine .cons ?_ (dp_ov f l)
    show Dp K H (ov (f i)) (pd (f i))
    cases f i with
    | none => exact .non
    | some j => exact .int _
theorem fl_ov {xs : List Int} (hz : xs.length ≤ 100) (l : List Nat) : ∀ d ∈ l.map (fun i => pd (par xs i)), Fl d := fun d hd => by
  obtain ⟨i, _, rfl⟩ := List.mem_map.mp hd
  cases e : par xs i with
  | none => exact .inl rfl
  | some j =>
    have := (par_some.mp e).2.1
    exact .inr ⟨j, rfl, small_log (by omega) (by omega)⟩
theorem fl_sel {n : Nat} (hz : n ≤ 100) (f : Nat → Bool) : ∀ d ∈ (sel n f).map PyData.int, Fl d := fl_ints fun c hc => by
  have := sel_bound hc
  exact small_log (by omega) (by omega)
theorem ones (n : Nat) : Lam (List.replicate n 1) := by
  have hg : ∀ i, i < (List.replicate n (1 : Int)).length → g (List.replicate n 1) i = 1 := fun i h => by
    rw [List.length_replicate] at h
    unfold g
    rw [List.getD_eq_getElem?_getD, List.getElem?_replicate, if_pos h]; rfl
  refine ⟨fun p h => by rw [hg p h]; decide, fun p h => by rw [hg p h]; omega, fun p j h h1 h2 => ?_⟩
  unfold fc at h1 ⊢
  rw [hg p h] at h1 ⊢
  rw [hg j (by omega)]
  omega
def stairs (n : Nat) : List Int := (List.range n).map fun i => (1 : Int) + (i : Nat)
theorem stairs_g {n i : Nat} (h : i < n) : g (stairs n) i = 1 + i := by
  unfold g stairs
  rw [List.getD_eq_getElem?_getD, List.getElem?_map, List.getElem?_range h]; rfl
theorem stairs_len (n : Nat) : (stairs n).length = n := by unfold stairs; rw [List.length_map, List.length_range]
theorem stairs_lam (n : Nat) : Lam (stairs n) := by
  refine ⟨fun p h => ?_, fun p h => ?_, fun p j h h1 h2 => ?_⟩
  all_goals rw [stairs_len] at h
  · rw [stairs_g h]; omega
  · rw [stairs_g h]; omega
  · unfold fc
    rw [stairs_g h, stairs_g (by omega)]; omega
theorem sel_ones : (sel 100 fun c => decide (par (List.replicate 100 1) c = none)) = (List.range 100).map fun i => (0 : Int) + (i : Nat) := by decide +kernel
theorem sel_stairs : (sel 100 fun c => decide (par (stairs 100) c = none)) = [99] := by decide +kernel
end
end Sx

set_option Elab.async false
set_option linter.all false
set_option maxRecDepth 100000
namespace PySem
open Builtin
open AutoSeq1 (wpAny_loadPart')
/-! enumerate of a tuple -/
section
variable {prog : Program} {w : World} {A : Around} {E : Value → Shared → Prop} {s : Shared}
theorem sx_next_item {j u : Addr} {i : Nat} {us : Array Value} {y : Value} {Q : Value → Shared → Prop} (hj : s.heap.IsTupleIter j u i) (hu : s.heap.IsTuple u us) (hy : us[i]? = some y)
    (k : ∀ h', h'.IsTupleIter j u (i + 1) → Heap.SameBut j s.heap h' → Q y { s with heap := h' }) : wpAny (model prog w) A (Builtin.SmallTypes.nextOf (.ref j)) Q E s := by
  obtain ⟨o, ho, hc, hd⟩ := id hj
  obtain ⟨ou, hou, _, nu, hdu⟩ := hu
  unfold Builtin.SmallTypes.nextOf
  refine wpAny_bind (wpAny_callSpecial?_slot (name := Str.ofString "__next__") hj.typeIs F.slot_tuple_iterator_next (wpAny_call_entry F.slot_tuple_iterator_next hj.typeIs F.entry_tuple_iterator_next ?_ (F.args_tuple_iterator_next_1 _)))
  show wpAny _ _ (field (.ref j) 0 >>= _) _ _ s
  refine wpAny_bind (wpAny_field ho hd (x := .ref u) rfl ?_)
  show wpAny _ _ (if (Value.ref u == Value.none) = true then _ else _) _ _ s
  rw [if_neg (show ¬ ((Value.ref u == Value.none) = true) from Bool.false_ne_true)]
  show wpAny _ _ (field (.ref j) 1 >>= _) _ _ s
  refine wpAny_bind (wpAny_field ho hd (x := .int i 0) rfl (show wpAny _ _ (seqItems? (.ref u) >>= _) _ _ s from wpAny_bind (wpAny_seqItems hou hdu ?_)))
  simp only [Int.toNat_natCast, hy]
  refine wpAny_bind (wpAny_setField ho hd (by simp) (wpAny_pure ⟨y, rfl, wpAny_pure (k _ ⟨_, Heap.get?_update_self _ ho (Obj.isFreed_of_fields (Obj.data_mapFields hd _)), (Obj.cls_mapFields ..).trans hc, ?_⟩ (Heap.SameBut.update ..))⟩))
  rw [Obj.data_mapFields hd]
  simp [rawInt]
theorem sx_next_end {j u : Addr} {i : Nat} {us : Array Value} {Q : Value → Shared → Prop} (hh : A.handled = none) (hj : s.heap.IsTupleIter j u i) (hu : s.heap.IsTuple u us) (hy : us[i]? = none)
    (k : ∀ h' e, Heap.ExtBut j s.heap h' → (∃ o, h'.get? e = some o ∧ o.cls = .type "StopIteration") → E (.ref e) { s with heap := h' }) : wpAny (model prog w) A (Builtin.SmallTypes.nextOf (.ref j)) Q E s := by
  obtain ⟨o, ho, hc, hd⟩ := id hj
  obtain ⟨ou, hou, _, nu, hdu⟩ := hu
  unfold Builtin.SmallTypes.nextOf
  refine wpAny_bind (wpAny_callSpecial?_slot (name := Str.ofString "__next__") hj.typeIs F.slot_tuple_iterator_next (wpAny_call_entry F.slot_tuple_iterator_next hj.typeIs F.entry_tuple_iterator_next ?_ (F.args_tuple_iterator_next_1 _)))
  show wpAny _ _ (field (.ref j) 0 >>= _) _ _ s
  refine wpAny_bind (wpAny_field ho hd (x := .ref u) rfl ?_)
  show wpAny _ _ (if (Value.ref u == Value.none) = true then _ else _) _ _ s
  rw [if_neg (show ¬ ((Value.ref u == Value.none) = true) from Bool.false_ne_true)]
  show wpAny _ _ (field (.ref j) 1 >>= _) _ _ s
  refine wpAny_bind (wpAny_field ho hd (x := .int i 0) rfl (show wpAny _ _ (seqItems? (.ref u) >>= _) _ _ s from wpAny_bind (wpAny_seqItems hou hdu ?_)))
  simp only [Int.toNat_natCast, hy]
  refine wpAny_bind (wpAny_rule (wpAny_bind (wpAny_setField ho hd (by simp) (show wpAny _ _ (newExc (.type "StopIteration") [] >>= _) _ _ _ from wpAny_bind ?_))))
  simp only [newExc, newTuple]
  refine wpAny_bind (wpAny_newObj_type (wpAny_bind (m := firstArgMember _ _) (wpAny_of_eq (a := Value.none) (by first | rfl | (simp only [firstArgMember]; rfl)) (wpAny_newObj_type ?_ (by size_fits)))) (by size_fits))
  simp only [raiseNew]
  refine wpAny_bind (wpAny_handled ?_)
  first | rw [show A.in1.handled = none from hh] | rw [hh]
  exact wpAny_bind (wpAny_pure (wpAny_throw (k _ _ (((Heap.SameBut.update ..).extBut.push _).push _) ⟨_, Heap.get?_push_size _ rfl, rfl⟩)))
theorem sx_draws (hh : A.handled = none) (j u : Addr) (hne : u ≠ j) (us : Array Value) :
    Draws prog w A j [j, u] us.size (fun i v => us[i]? = some v) (fun i h => h.IsTupleIter j u i ∧ h.IsTuple u us) where
  live := fun _ _ st => by
    obtain ⟨o, ho, _⟩ := st.1
    exact ⟨o, ho⟩
  frame := fun _ _ _ st hk => ⟨st.1.at fun o e => hk j (List.mem_cons_self ..) o e, st.2.at fun o e => hk u (List.mem_cons_of_mem _ (List.mem_cons_self ..)) o e⟩
  item := fun i s Q E hi st hQ => sx_next_item st.1 st.2 (y := us[i]) (Array.getElem?_eq_getElem hi) fun h' hit' hs' => hQ _ h' s.toks (Array.getElem?_eq_getElem hi) ⟨hit', st.2.extBut hs'.extBut hne⟩ hs'
  done := fun s Q E st hE => sx_next_end hh st.1 st.2 (by simp) hE
theorem sx_enum_new (u : Addr) (us : Array Value) (n : Nat) (dct : Option Addr) (sl : Array (Option Value)) :
    Meets (Builtin.«enumerate.__new__» ⟨[.type "enumerate", .ref u], []⟩) (fun _ R s => s.heap.get? u = some { cls := .type "tuple", dict := dct, data := .seq us n, slots := sl } ∧
      R (.ok (.ret (.ref (s.heap.push { cls := .type "tuple_iterator", data := .fields #[.ref u, .int 0 0] }).objs.size)))
        { s with heap := (s.heap.push { cls := .type "tuple_iterator", data := .fields #[.ref u, .int 0 0] }).push { cls := .type "enumerate", data := .fields #[.none, .bool false, .ref s.heap.objs.size, rawInt 0, .none, .none] } }) :=
  .of_wp fun prog w A R s h => by
    obtain ⟨hp, gg, d, tk, os⟩ := s
    obtain ⟨hl, h⟩ := h
    have hsub := sub_enumerate
    have hL : Heap.IsTuple (Shared.heap ⟨hp, gg, d, tk, os⟩) u us := ⟨_, hl, rfl, n, rfl⟩
    wp_walk using wpAny_loadPart' hl
    refine wpAny_stack_any fun st => wpAny_pure ?_
    split
    · rename_i c _ _ _ _ _
      cases (c == Value.type "enumerate") <;> (wp_walk using wpAny_loadPart' hl, wpAny_pyIter_tuple hL; exact ⟨_, rfl, h⟩)
    · wp_walk using wpAny_loadPart' hl, wpAny_pyIter_tuple hL
      exact ⟨_, rfl, h⟩
theorem sx_call_enum {u : Addr} {us : Array Value} {Q : Value → Shared → Prop} (hL : s.heap.IsTuple u us)
    (h : ∀ h', IsEnum h' (s.heap.objs.size + 1) s.heap.objs.size 0 .none → h'.IsTupleIter s.heap.objs.size u 0 → (∀ b o, s.heap.get? b = some o → h'.get? b = some o) → Q (.ref (s.heap.objs.size + 1)) { s with heap := h' }) :
    wpAny (model prog w) A (call (.type "enumerate") [.ref u]) Q E s := by
  obtain ⟨⟨c, dct, dt, sl⟩, hl, hc, n, hd⟩ := hL
  replace hc : c = .type "tuple" := hc
  replace hd : dt = .seq us n := hd
  subst hc hd
  refine callType_new F.called_enumerate (by decide) (F.typeCall_enumerate_1 _) (F.newCall_enumerate_1 _) (fun obj => F.args_object_init_2 obj _) F.entry_enumerate_new (sx_enum_new u us n dct sl) ⟨hl, ?_⟩
  have hz : (s.heap.push { cls := .type "tuple_iterator", data := .fields #[.ref u, .int 0 0] }).objs.size = s.heap.objs.size + 1 := Heap.size_push ..
  show _ ∧ _
  rw [hz]
  have he : IsEnum ((s.heap.push { cls := .type "tuple_iterator", data := .fields #[.ref u, .int 0 0] }).push { cls := .type "enumerate", data := .fields #[.none, .bool false, .ref s.heap.objs.size, rawInt 0, .none, .none] }) (s.heap.objs.size + 1) s.heap.objs.size 0 .none := by
    have z := Heap.get?_push_size (s.heap.push { cls := .type "tuple_iterator", data := .fields #[.ref u, .int 0 0] }) (o := { cls := .type "enumerate", data := .fields #[.none, .bool false, .ref s.heap.objs.size, rawInt 0, .none, .none] }) rfl
    rw [hz] at z
    exact z
  exact ⟨⟨_, he, rfl⟩, h _ he ⟨_, Heap.get?_push_of_some _ (Heap.get?_push_size _ rfl), rfl, rfl⟩ fun b o x => Heap.get?_push_of_some _ (Heap.get?_push_of_some _ x)⟩
end
end PySem
namespace Sx
open PySem PySem.Spec
open PyProof.Rows L2
/-- what enumerate of the tuple at a yields -/
def ItE (K : PySem.W.Frag) (a : Addr) : It :=
  ⟨fun i H => ∃ (xs : List V) (x : V), SqT K H a xs ∧ xs[i]? = some x,
   fun i H v H' => ∃ T x, v = .ref T ∧ H T = none ∧ H' = upd H T (.tup [.int (i : Nat), x]) ∧ ∀ xs, SqT K H a xs → xs[i]? = some x,
   fun i H => ∃ xs : List V, SqT K H a xs ∧ xs.length ≤ i⟩
theorem turn_enumT {P : Program} {w : World} {K : PySem.W.Frag} {elts : List Expr} {kk : Nat} {tpos : Pos} (a e it : Addr) :
    Turn P w K (.Tuple elts kk tpos) (ItE K a) [e, it] e (fun i h => (∃ old, IsEnum h e it ((i : Nat) : Int) old) ∧ h.IsTupleIter it a i ∧ e ≠ it) where
  mem := List.mem_cons_self ..
  obj := fun i h st b hb => by
    obtain ⟨⟨old, he⟩, ⟨o, ho, hc, hd⟩, _⟩ := st
    rcases List.mem_cons.mp hb with z | z
    · rw [z]; exact ⟨_, he, fun v q => nomatch q⟩
    · rw [List.mem_singleton.mp z]; exact ⟨o, ho, fun v q => by rw [hd] at q; cases q⟩
  keep := fun i h h' st k => by
    obtain ⟨⟨old, he⟩, hi, hne⟩ := st
    exact ⟨⟨old, k e (List.mem_cons_self ..) _ he⟩, hi.at fun o q => k it (List.mem_cons_of_mem _ (List.mem_cons_self ..)) o q, hne⟩
  item := by
    intro X hP hw hK hc i pins s σ H E I hf st hg
    subst hP hw hK
    obtain ⟨⟨old, he⟩, hit, hne⟩ := st
    obtain ⟨xs, x, hq, hx⟩ := hg
    obtain ⟨its, rv, p, hz⟩ := I.tuple hq
    obtain ⟨u, hu, ru⟩ := rv.get hx
    have hel : e < s.heap.objs.size := Heap.lt_size he
    have hil : it < s.heap.objs.size := by obtain ⟨_, q, _⟩ := hit; exact Heap.lt_size q
    have hal : a < s.heap.objs.size := p.lt
    have hi : i < its.toArray.size := by
      have := (List.getElem?_eq_some_iff.mp hu).1
      rwa [List.size_toArray]
    have hai : a ≠ it := by
      obtain ⟨o, q, c, _⟩ := hit
      obtain ⟨o', q', c', _⟩ := p
      intro z
      subst z
      rw [q] at q'
      cases q'
      rw [c] at c'
      exact absurd (Value.type.inj c') (by decide)
    have hea : e ≠ a := by
      obtain ⟨o', q', c', _⟩ := p
      intro z
      subst z
      rw [he] at q'
      cases q'
      exact absurd (Value.type.inj c') (by decide)
    have hef : e ∉ [it, a] := fun z => by
      rcases List.mem_cons.mp z with z | z
      · exact hne z
      · exact hea (List.mem_singleton.mp z)
    refine wpAny_pyNext_enum_itemD (sx_draws (A := X.A.in1) (I.ok.hd hc) it a hai its.toArray) he ⟨hit, p⟩ hi hne hef fun y h' tk hP ho hst hT hsz hk => ?_
    have ey : y = u := by
      have h1 : its.toArray[i]? = some y := hP
      rw [List.getElem?_toArray, hu] at h1
      exact (Option.some.inj h1).symm
    subst ey
    refine ⟨_, rfl, wpAny_letOwnedTupleGo_enum (s := { s with heap := h', toks := tk + 1 }) ho fun h'' he' sb => ?_⟩
    have hT2 := (sb.2 _ (Nat.ne_of_gt hel)).trans hT
    have new : ObjOk X.prog X.w (upd H s.heap.objs.size (.tup [.int (i : Nat), x])) h'' s.heap.objs.size (.tup [.int (i : Nat), x]) :=
      ⟨by show 2 ≤ sizeLine; decide, [.int i tk, y], .cons ⟨_, rfl⟩ (.cons ru .nil), ⟨_, hT2, rfl, _, rfl⟩⟩
    have I1 : Inv X pins σ (upd H s.heap.objs.size (.tup [.int (i : Nat), x])) { s with heap := h'', toks := tk + 1 } :=
      I.turnedNew (ch := [e, it]) (fun b ob hb q => (sb.2 b fun z => hb (by simp [z])).trans (hk b ob (fun z => hb (by simp [z])) (fun z => hb (by simp [z])) q)) hf (Nat.le_refl _) new
    refine ⟨.ref s.heap.objs.size, _, I1, rfl, ⟨_, x, rfl, I.hok.fresh (Nat.le_refl _), rfl, fun ys hy => ?_⟩, ⟨⟨y, ?_⟩, hst.1.at fun o q => (sb.2 it (Ne.symm hne)).trans q, hne⟩, fun b hb => ?_⟩
    · rw [I.tuple_inj hy hq]; exact hx
    · rw [show ((i + 1 : Nat) : Int) = (i : Int) + 1 by omega]
      exact he'
    · have hb' : b < s.heap.objs.size := by
        rcases List.mem_cons.mp hb with z | z
        · rw [z]; exact hel
        · rw [List.mem_singleton.mp z]; exact hil
      rw [upd_ne (Nat.ne_of_lt hb')]
      exact (hf b hb).1
  done := by
    intro X hP hw hK hc i pins s σ H E I hf st hg
    subst hP hw hK
    obtain ⟨⟨old, he⟩, hit, hne⟩ := st
    obtain ⟨xs, hq, hx⟩ := hg
    obtain ⟨its, rv, p, hz⟩ := I.tuple hq
    obtain ⟨f0, f1, f2, f3, f4, f5⟩ := hf it (List.mem_cons_of_mem _ (List.mem_cons_self ..))
    have hl := rv.length
    have hai : a ≠ it := by
      obtain ⟨o, q, c, _⟩ := hit
      obtain ⟨o', q', c', _⟩ := p
      intro z
      subst z
      rw [q] at q'
      cases q'
      rw [c] at c'
      exact absurd (Value.type.inj c') (by decide)
    have Dn : Draws X.prog X.w X.A.in1 it [it, a] i (fun _ _ => True) (fun k h => k = i ∧ h.IsTupleIter it a k ∧ h.IsTuple a its.toArray) :=
      ⟨fun _ _ st => by obtain ⟨_, ⟨o, ho, _⟩, _⟩ := st; exact ⟨o, ho⟩,
       fun _ _ _ st hk => ⟨st.1, st.2.1.at fun o e => hk it (List.mem_cons_self ..) o e, st.2.2.at fun o e => hk a (List.mem_cons_of_mem _ (List.mem_cons_self ..)) o e⟩,
       fun k s Q E hi st hQ => absurd hi (by rw [st.1]; exact Nat.lt_irrefl _),
       fun s Q E st hE => sx_next_end (I.ok.hd hc) st.2.1 st.2.2 (by simp; omega) hE⟩
    exact wpAny_pyNext_enum_endD Dn he ⟨rfl, hit, p⟩ fun h' eb => ⟨rfl, I.turned (t' := s.toks) (fun b o hb q => eb b o hb q) f0 f1 f3 f4 f5⟩
  self := fun A i s Q E st h => by
    obtain ⟨⟨_, he⟩, _⟩ := st
    exact wpAny_pyIter_enum he h
def iEnumT (K : PySem.W.Frag) (ta : TA) : TI := fun σ H R => ta σ H fun vs H1 => ∃ a xs, vs = [.ref a] ∧ SqT K H1 a xs ∧ R (ItE K a) H1
theorem pi_enumT {X : Cx} {e : Expr} {ta : TA} {p pos tpos : Pos} {elts : List Expr} {kk : Nat} (hg : Gl X "enumerate") (hm : X.mg "enumerate" = none) (ha : PA X [e] ta) (hs : starEach [e] X.env = [(false, eval e X.env)] := by rfl) :
    PI X (.Tuple elts kk tpos) (.Call (.Name "enumerate" p) [e] [] pos) (iEnumT X.K ta) := by
  refine ⟨fun pins s σ H R I h => Call_ (ld_blt I hg hm boot_enumerate (PyProof.Rows.callWith_type1 (thn (ha.run pos pins s σ H _ I h) fun us s1 ⟨vs, H1, I1, r1, q1⟩ => ?_) hs rfl))⟩
  obtain ⟨a, xs, rfl, hq, q⟩ := q1
  rw [Vals.ref1 r1]
  obtain ⟨its, rv, p', hz⟩ := I1.tuple hq
  refine sx_call_enum p' fun h' he hit hk => wpAny_pyIter_enum he ?_
  refine ⟨s1.heap.objs.size + 1, [s1.heap.objs.size + 1, s1.heap.objs.size], _, _, H1, rfl, I1.kept (t' := s1.toks) hk, turn_enumT a (s1.heap.objs.size + 1) s1.heap.objs.size, ⟨⟨.none, he⟩, hit, Nat.succ_ne_self _⟩, fun b hb => ?_, q⟩
  have hle : s1.heap.objs.size ≤ b := by
    rcases List.mem_cons.mp hb with z | z
    · rw [z]; exact Nat.le_succ _
    · rw [List.mem_singleton.mp z]; exact Nat.le_refl _
  exact I1.fpOk hle (I1.hok.fresh hle)
/-- the loop over it -/
theorem for_enumT {K : PySem.W.Frag} {a : Addr} {xs : List V} {g : TG} {tb : TS} {D : Ends} {σ : L2.St} {H : Hp} (Pv : Nat → L2.St → Hp → Prop) (h0 : Pv 0 σ H) (hl : ∀ i σ H, Pv i σ H → SqT K H a xs)
    (hs : ∀ i x T σ H, xs[i]? = some x → Pv i σ H → H T = none →
      g (.ref T) σ (upd H T (.tup [.int (i : Nat), x])) fun σ2 H2 => tb { D with nx := Pv (i + 1), ct := Pv (i + 1), bk := D.nx } σ2 H2)
    (hd : ∀ σ H, Pv xs.length σ H → D.nx σ H) :
    ∃ W : Nat → Nat → L2.St → Hp → Prop, (∃ m, W 0 m σ H) ∧ ∀ i m σ H, W i m σ H →
      ((ItE K a).stop i H ∧ D.nx σ H) ∨
      ((ItE K a).go i H ∧ ∃ N : L2.St → Hp → Prop, (∀ σ' H', N σ' H' → ∃ m', m' < m ∧ W (i + 1) m' σ' H') ∧
        ∀ x H', (ItE K a).yld i H x H' → g x σ H' fun σ2 H2 => tb { D with nx := N, ct := N, bk := D.nx } σ2 H2) := by
  refine ⟨fun i m σ H => i + m = xs.length ∧ Pv i σ H, ⟨xs.length, by omega, h0⟩, fun i m σ H ⟨e, p⟩ => ?_⟩
  have q := hl i σ H p
  by_cases hi : i < xs.length
  · refine .inr ⟨⟨xs, xs[i], q, List.getElem?_eq_getElem hi⟩, Pv (i + 1), fun σ' H' p' => ⟨m - 1, by omega, by omega, p'⟩, ?_⟩
    rintro x H' ⟨T, y, rfl, hT, rfl, hy⟩
    exact hs i y T σ H (hy xs q) p hT
  · have : i = xs.length := by omega
    subst this
    exact .inl ⟨⟨xs, q, Nat.le_refl _⟩, hd σ H p⟩
end Sx
namespace Sx
open PySem PySem.Spec
open PyProof.Rows L2
section
variable {X : Cx}
/-- max, min of a tuple of ints -/
def rBestT (up : Bool) (K : PySem.W.Frag) : List V → Hp → VK → Prop := fun vs H Q =>
  ∃ (a : Addr) (ns : List Int), vs = [V.ref a] ∧ SqT K H a (ns.map V.int) ∧ ns ≠ [] ∧ ∀ m, m ∈ ns → (∀ y, y ∈ ns → if up = true then y ≤ m else m ≤ y) → Q (.int m) H
theorem cr_maxT (hc : X.calm = true) : CallR X (.builtin "max") (rBestT true X.K) := by
  intro pins s σ H vs us Q I r h
  obtain ⟨a, ns, rfl, hs, hne, q⟩ := h
  obtain ⟨its, rv, hl, _⟩ := I.tuple hs
  rw [Vals.ref1 r]
  obtain ⟨xs, e⟩ := rv.ints.allInts.items
  have hn : numsOf (intItems xs).toList = ns := by rw [← e]; exact rv.ints.numsOf
  rw [nums_intItems] at hn
  rw [e] at hl
  subst hn
  have hsz : 0 < xs.size := by
    rcases Nat.eq_zero_or_pos xs.size with z | z
    · exact absurd (by rw [Array.eq_empty_of_size_eq_zero z]; rfl) hne
    · exact z
  have hne2 : a ≠ s.heap.objs.size := Nat.ne_of_lt hl.lt
  refine call_max_walk (wpAny_pyIter_tuple hl ?_)
  refine ⟨_, _, _, _, _, _, _, rfl, Walks.tuple (A := X.A.in1) (I.ok.hd hc) _ a hne2 (intItems xs), ⟨⟨_, Heap.get?_push_size _ rfl, rfl, rfl⟩, hl.keeps fun b o e => Heap.get?_push_of_some _ e⟩, fun b hb => ?_,
    by simpa [intItems] using hsz, CmpOf.ints_gt (numAt xs) (fun _ _ => intItems_at), fun v h' tk hP hk => ?_⟩
  · show b < (s.heap.push _).objs.size
    rw [Heap.size_push]
    rcases List.mem_cons.mp hb with z | z
    · rw [z]; exact Nat.lt_succ_self _
    · rw [List.mem_singleton.mp z]; exact Nat.lt_succ_of_lt hl.lt
  · have hv : (intItems xs)[argBest (fun i j => decide (numAt xs i > numAt xs j)) (xs.size - 1)]? = some v := by simpa [intItems] using hP
    obtain ⟨t, rfl⟩ := intItems_at hv
    obtain ⟨h1, h2⟩ := argBest_gt (numAt xs) (xs.size - 1)
    refine ⟨.int _, H, I.kept (fun b o eo => hk b o (fun hm => ?_) (Heap.get?_push_of_some _ eo)), ⟨_, rfl⟩, q _ ?_ fun y hy => ?_⟩
    · have z := Heap.lt_size eo
      rw [List.mem_singleton] at hm
      rw [hm] at z
      exact Nat.lt_irrefl _ z
    · rw [numAt_eq]
      exact PySem.getD_mem (by rw [List.length_map, Array.length_toList]; omega)
    · rw [if_pos rfl]
      obtain ⟨j, hj, rfl⟩ := mem_getD hy
      rw [List.length_map, Array.length_toList] at hj
      rw [← numAt_eq]
      exact h2 j (by omega)
end
end Sx

set_option Elab.async false
set_option linter.all false
namespace Sx
/-! ### spans of a row, by looking back -/
/-- from f back to behind the last entry that is at least e -/
def bk (xs : List Int) (e : Int) : Nat → Nat
  | 0 => 0
  | f + 1 => if g xs f < e then bk xs e f else f + 1
theorem bk_le (xs : List Int) (e : Int) : ∀ f, bk xs e f ≤ f
  | 0 => Nat.le_refl _
  | f + 1 => by
    unfold bk
    split
    · exact Nat.le_succ_of_le (bk_le xs e f)
    · exact Nat.le_refl _
theorem bk_lt {xs : List Int} {e : Int} : ∀ {f j : Nat}, bk xs e f ≤ j → j < f → g xs j < e
  | 0, _, _, h => absurd h (Nat.not_lt_zero _)
  | f + 1, j, h1, h2 => by
    unfold bk at h1
    split at h1
    · by_cases h : j = f
      · subst h; assumption
      · exact bk_lt h1 (by omega)
    · omega
theorem bk_ge {xs : List Int} {e : Int} : ∀ {f : Nat}, 0 < bk xs e f → e ≤ g xs (bk xs e f - 1)
  | 0, h => absurd h (Nat.lt_irrefl _)
  | f + 1, h => by
    unfold bk at h ⊢
    split at h
    · rename_i hc
      rw [if_pos hc]
      exact bk_ge h
    · rename_i hc
      rw [if_neg hc]
      show e ≤ g xs f
      omega
theorem bk_eq {xs : List Int} {e : Int} {f b : Nat} (h0 : b ≤ f) (h1 : ∀ j, b ≤ j → j < f → g xs j < e) (h2 : 0 < b → e ≤ g xs (b - 1)) : bk xs e f = b := by
  rcases Nat.lt_trichotomy (bk xs e f) b with h | h | h
  · have a := h2 (by omega)
    have := bk_lt (xs := xs) (e := e) (f := f) (j := b - 1) (by omega) (by omega)
    omega
  · exact h
  · have a := bk_ge (xs := xs) (e := e) (f := f) (by omega)
    have := h1 (bk xs e f - 1) (by omega) (by have := bk_le xs e f; omega)
    omega
def spn (xs : List Int) (i : Nat) : Int := (i : Int) - bk xs (g xs i) i + 1
def spans (xs : List Int) : List Int := (List.range xs.length).map (spn xs)
theorem spans_len (xs : List Int) : (spans xs).length = xs.length := by unfold spans; rw [List.length_map, List.length_range]
theorem spans_g {xs : List Int} {i : Nat} (h : i < xs.length) : g (spans xs) i = spn xs i := by
  unfold spans
  show ((List.range xs.length).map (spn xs)).getD i 0 = _
  rw [List.getD_eq_getElem?_getD, List.getElem?_map, List.getElem?_range h]; rfl
theorem spans_fc {xs : List Int} {i : Nat} (h : i < xs.length) : fc (spans xs) i = bk xs (g xs i) i := by
  unfold fc
  rw [spans_g h]
  unfold spn
  omega
theorem spans_lam (xs : List Int) : Lam (spans xs) := by
  refine ⟨fun p h => ?_, fun p h => ?_, fun p j h h1 h2 => ?_⟩
  all_goals rw [spans_len] at h
  · rw [spans_g h]; unfold spn; have := bk_le xs (g xs p) p; omega
  · rw [spans_g h]; unfold spn; omega
  · rw [spans_fc h] at h1 ⊢
    rw [spans_fc (by omega)]
    have hj := bk_lt (xs := xs) (e := g xs p) (f := p) (j := j) (by omega) h2
    by_cases hz : bk xs (g xs p) p = 0
    · omega
    · have a := bk_ge (xs := xs) (e := g xs p) (f := p) (by omega)
      by_cases hb : bk xs (g xs j) j < bk xs (g xs p) p
      · have := bk_lt (xs := xs) (e := g xs j) (f := j) (j := bk xs (g xs p) p - 1) (by omega) (by omega)
        omega
      · omega
/-- the last place of the stretch -/
def lst (xs : List Int) (i : Nat) : Int := match par xs i with
  | none => (xs.length : Int) - 1
  | some b => (b : Int) - 1
theorem lst_in {xs : List Int} {i : Nat} (h : i < xs.length) : (i : Int) ≤ lst xs i ∧ lst xs i < xs.length := by
  unfold lst
  cases e : par xs i with
  | none => constructor <;> simp only <;> omega
  | some b =>
    obtain ⟨h1, h2, _⟩ := par_some.mp e
    constructor <;> simp only <;> omega
theorem lst_free {xs : List Int} {i j : Nat} (h : i < xs.length) (h1 : i < j) (h2 : (j : Int) ≤ lst xs i) : (i : Int) < fc xs j := by
  unfold lst at h2
  cases e : par xs i with
  | none => rw [e] at h2; simp only at h2; exact par_none.mp e j h1 (by omega)
  | some b =>
    rw [e] at h2
    simp only at h2
    exact (par_some.mp e).2.2.2 j h1 (by omega)
/-- in its stretch an entry is the greatest -/
theorem great {xs : List Int} {i : Nat} (h : i < xs.length) : ∀ j : Nat, fc (spans xs) i ≤ (j : Int) → (j : Int) ≤ lst (spans xs) i → g xs j ≤ g xs i := by
  have hs : i < (spans xs).length := by rw [spans_len]; exact h
  have hl := lst_in hs
  rw [spans_len] at hl
  intro j h1 h2
  rw [spans_fc h] at h1
  by_cases hj : j < i
  · exact Int.le_of_lt (bk_lt (f := i) (by omega) hj)
  · by_cases he : j = i
    · rw [he]; exact Int.le_refl _
    · -- the least place behind with a greater entry would cover i
      have key : ∀ n j : Nat, j - i ≤ n → i ≤ j → (j : Int) ≤ lst (spans xs) i → g xs j ≤ g xs i := by
        intro n
        induction n with
        | zero => intro j a b c; have : j = i := by omega
                  rw [this]; exact Int.le_refl _
        | succ n ih =>
          intro j a b c
          by_cases e : j = i
          · rw [e]; exact Int.le_refl _
          · by_cases q : g xs j ≤ g xs i
            · exact q
            · exfalso
              have hf := lst_free hs (show i < j by omega) c
              rw [spans_fc (by omega)] at hf
              have hb := bk_ge (xs := xs) (e := g xs j) (f := j) (by omega)
              have hle := bk_le xs (g xs j) j
              have := ih (bk xs (g xs j) j - 1) (by omega) (by omega) (by omega)
              omega
      exact key (j - i) j (Nat.le_refl _) (by omega) h2
theorem great_behind {xs : List Int} {i : Nat} (h : i < xs.length) (h1 : lst (spans xs) i + 1 < xs.length) : g xs i < g xs (lst (spans xs) i + 1).toNat := by
  unfold lst at h1 ⊢
  cases e : par (spans xs) i with
  | none => rw [e] at h1; simp only at h1; rw [spans_len] at h1; omega
  | some b =>
    simp only
    obtain ⟨g1, g2, g3, _⟩ := par_some.mp e
    rw [spans_len] at g2
    rw [spans_fc g2] at g3
    have : ((b : Int) - 1 + 1).toNat = b := by omega
    rw [this]
    exact bk_lt (f := b) (by omega) g1
theorem great_front {xs : List Int} {i : Nat} (h : i < xs.length) (h1 : 0 < fc (spans xs) i) : g xs i ≤ g xs (fc (spans xs) i - 1).toNat := by
  rw [spans_fc h] at h1 ⊢
  have := bk_ge (xs := xs) (e := g xs i) (f := i) (by omega)
  have e : ((bk xs (g xs i) i : Int) - 1).toNat = bk xs (g xs i) i - 1 := by omega
  rw [e]
  exact this
end Sx

set_option Elab.async false
set_option linter.all false
set_option maxRecDepth 100000
namespace Sx
open PySem PySem.Spec
open PyProof.Rows L2
/-! ### small data: k deep, b items and signs -/
structure Sm (d : PyData) (k b : Nat) : Prop where
  ok : d.showable = true
  deep : d.depth ≤ k
  short : d.leavesShort 1921 = true
  bulk : d.bulk ≤ b
theorem Sm.shw {d : PyData} {k b : Nat} (s : Sm d k b) (hk : k ≤ 100) (hb : b ≤ 8000) : Shw d := by
  refine ⟨s.ok, Nat.le_trans s.deep hk, ?_⟩
  have h1 := PyData.shown_le_bulk 1921 (by decide) d s.short
  have h2 := s.bulk
  have h3 : (1921 + 2) * d.bulk ≤ 1923 * 8000 := Nat.mul_le_mul (Nat.le_refl _) (by omega)
  exact Nat.le_trans h1 (Nat.le_trans (show _ ≤ 16000000 by omega) (by decide))
theorem Sm.mono {d : PyData} {k b k' b' : Nat} (s : Sm d k b) (h1 : k ≤ k') (h2 : b ≤ b') : Sm d k' b' := ⟨s.ok, Nat.le_trans s.deep h1, s.short, Nat.le_trans s.bulk h2⟩
theorem Sm.all {k b : Nat} : ∀ {ds : List PyData}, (∀ d ∈ ds, Sm d k b) → PyData.showableAll ds = true ∧ PyData.depthAll ds ≤ k ∧ PyData.leavesShortAll 1921 ds = true ∧ PyData.bulkAll ds ≤ ds.length * (b + 1)
  | [], _ => by simp [PyData.showableAll, PyData.depthAll, PyData.leavesShortAll, PyData.bulkAll]
  | d :: ds, h => by
    obtain ⟨h1, h2, h3, h4⟩ := Sm.all (ds := ds) fun e he => h e (List.mem_cons_of_mem _ he)
    have hd := h d (List.mem_cons_self ..)
    refine ⟨by simp [PyData.showableAll, hd.ok, h1], ?_, by simp [PyData.leavesShortAll, hd.short, h3], ?_⟩
    · simp only [PyData.depthAll]
      have := hd.deep
      omega
    · simp only [PyData.bulkAll, List.length_cons]
      have := hd.bulk
      have e : (ds.length + 1) * (b + 1) = ds.length * (b + 1) + (b + 1) := by rw [Nat.add_mul, Nat.one_mul]
      omega
theorem Sm.list {ds : List PyData} {k b n : Nat} (h : ∀ d ∈ ds, Sm d k b) (hn : ds.length ≤ n) : Sm (.list ds) (k + 1) (n * (b + 1)) := by
  obtain ⟨h1, h2, h3, h4⟩ := Sm.all h
  refine ⟨by simp [PyData.showable, h1], by simp only [PyData.depth]; omega, by simp [PyData.leavesShort, h3], ?_⟩
  simp only [PyData.bulk]
  exact Nat.le_trans h4 (Nat.mul_le_mul hn (Nat.le_refl _))
theorem Sm.tuple {ds : List PyData} {k b n : Nat} (h : ∀ d ∈ ds, Sm d k b) (hn : ds.length ≤ n) : Sm (.tuple ds) (k + 1) (n * (b + 1)) := by
  obtain ⟨h1, h2, h3, h4⟩ := Sm.all h
  refine ⟨by simp [PyData.showable, h1], by simp only [PyData.depth]; omega, by simp [PyData.leavesShort, h3], ?_⟩
  simp only [PyData.bulk]
  exact Nat.le_trans h4 (Nat.mul_le_mul hn (Nat.le_refl _))
theorem Sm.int {i : Int} (h : i.natAbs.log2 < 1900) : Sm (.int i) 0 0 := by
  have hl : (Str.ofString (toString i)).length ≤ 1921 := int_text_len_1921 (by omega)
  refine ⟨by simp [PyData.showable]; omega, by simp [PyData.depth], ?_, by simp [PyData.bulk]⟩
  simp only [PyData.leavesShort, decide_eq_true_eq]
  exact hl
theorem Sm.none : Sm .none 0 0 := ⟨by simp [PyData.showable], by simp [PyData.depth], by simp [PyData.leavesShort], by simp [PyData.bulk]⟩
theorem Sm.bool (b : Bool) : Sm (.bool b) 0 0 := ⟨by simp [PyData.showable], by simp [PyData.depth], by simp [PyData.leavesShort], by simp [PyData.bulk]⟩

theorem p1000w {n : Int} (h : n < 2 ^ 200) : n < 2 ^ 1000 := by
  refine Int.lt_of_lt_of_le h ?_
  have e1 : (2 : Int) ^ 200 = ((2 ^ 200 : Nat) : Int) := by decide
  have e2 : (2 : Int) ^ 1000 = ((2 ^ 1000 : Nat) : Int) := by norm_cast
  rw [e1, e2]
  exact Int.ofNat_le.mpr (Nat.pow_le_pow_right (by decide) (by decide))
theorem at5 {x1 x2 x3 x4 x5 lo hi r : Int} (r0 : 0 ≤ r) (r1 : r < 5) (h1 : lo ≤ x1 ∧ x1 ≤ hi) (h2 : lo ≤ x2 ∧ x2 ≤ hi) (h3 : lo ≤ x3 ∧ x3 ≤ hi) (h4 : lo ≤ x4 ∧ x4 ≤ hi) (h5 : lo ≤ x5 ∧ x5 ≤ hi) :
    ∃ v : Int, atI [V.int x1, V.int x2, V.int x3, V.int x4, V.int x5] r = some (.int v) ∧ lo ≤ v ∧ v ≤ hi := by
  rcases (show r = 0 ∨ r = 1 ∨ r = 2 ∨ r = 3 ∨ r = 4 by omega) with e | e | e | e | e <;> subst e
  · exact ⟨x1, rfl, h1⟩
  · exact ⟨x2, rfl, h2⟩
  · exact ⟨x3, rfl, h3⟩
  · exact ⟨x4, rfl, h4⟩
  · exact ⟨x5, rfl, h5⟩
section
variable {K : PySem.W.Frag}
theorem slA_cut {H : Hp} {c : Addr} {xs : List V} {i j : Nat} {Q : VK} (hS : SqT K H c xs) (h1 : i ≤ j) (h2 : j ≤ xs.length)
    (q : ∀ a' H', Ex H H' → SqT K H' a' ((xs.drop i).take (j - i)) → Q (.ref a') H') : rSlA K (.ref c) (some (i : Int)) (some (j : Int)) H Q := by
  have hc : cutV xs (some (i : Int)) (some (j : Int)) = (xs.drop i).take (j - i) := by
    unfold cutV
    rw [HT.sIx_nat, HT.sIx_nat, Nat.min_eq_left h2, Nat.min_eq_left (Nat.le_trans h1 h2)]
  refine ⟨c, xs, rfl, hS, fun hw => ?_, fun _ p hp => q p _ (Evl.Ex.new hp) (SqT.of (by rw [upd_same, hc]))⟩
  have a := hw.1
  have b := hw.2
  rw [HT.sIx_nat] at a b
  rw [Nat.min_eq_left (Nat.le_trans h1 h2)] at a
  rw [Nat.min_eq_left h2] at b
  refine q c H (Evl.Ex.refl H) ?_
  rw [a, b, List.drop_zero, Nat.sub_zero, List.take_length]
  exact hS
end
end Sx

set_option Elab.async false
set_option linter.all false
namespace Sx
/-! ### rounds -/
theorem g_ext {xs ys : List Int} (hl : xs.length = ys.length) (h : ∀ i, i < xs.length → g xs i = g ys i) : xs = ys := by
  refine List.ext_getElem hl fun i h1 h2 => ?_
  have := h i h1
  unfold g at this
  rw [List.getD_eq_getElem?_getD, List.getD_eq_getElem?_getD, List.getElem?_eq_getElem h1, List.getElem?_eq_getElem h2] at this
  exact this
theorem bk_congr {xs ys : List Int} {e e' : Int} : ∀ {f : Nat}, (∀ j, j < f → (g xs j < e ↔ g ys j < e')) → bk xs e f = bk ys e' f
  | 0, _ => rfl
  | f + 1, h => by
    unfold bk
    have h1 := h f (Nat.lt_succ_self f)
    have h2 := bk_congr (f := f) fun j hj => h j (Nat.lt_succ_of_lt hj)
    by_cases c : g xs f < e
    · rw [if_pos c, if_pos (h1.mp c), h2]
    · rw [if_neg c, if_neg fun k => c (h1.mpr k)]
/-- other entries in the same order -/
theorem spans_order {xs ys : List Int} (hl : xs.length = ys.length) (h : ∀ i j, i < xs.length → j < xs.length → (g xs i < g xs j ↔ g ys i < g ys j)) : spans xs = spans ys := by
  refine g_ext (by rw [spans_len, spans_len, hl]) fun i hi => ?_
  rw [spans_len] at hi
  rw [spans_g hi, spans_g (by omega)]
  unfold spn
  rw [bk_congr (ys := ys) (e' := g ys i) fun j hj => h j i (by omega) hi]
theorem g_take {xs : List Int} {m i : Nat} (h : i < m) : g (xs.take m) i = g xs i := by
  unfold g
  rw [List.getD_eq_getElem?_getD, List.getD_eq_getElem?_getD, List.getElem?_take, if_pos h]
/-- the front part -/
theorem spans_take (xs : List Int) (m : Nat) : spans (xs.take m) = (spans xs).take m := by
  refine g_ext (by rw [spans_len, List.length_take, List.length_take, spans_len]) fun i hi => ?_
  rw [spans_len, List.length_take] at hi
  rw [spans_g (by rw [List.length_take]; exact hi), g_take (by omega), spans_g (by omega)]
  unfold spn
  rw [g_take (by omega), bk_congr (ys := xs) (e' := g xs i) fun j hj => by rw [g_take (by omega)]]
def ro : Nat → List Int → List Int
  | 0, xs => xs
  | n + 1, xs => spans (ro n xs)
theorem ro_len (xs : List Int) : ∀ n, (ro n xs).length = xs.length
  | 0 => rfl
  | n + 1 => by show (spans (ro n xs)).length = _; rw [spans_len, ro_len xs n]
theorem ro_shift (xs : List Int) : ∀ n, ro n (spans xs) = ro (n + 1) xs
  | 0 => rfl
  | n + 1 => by show spans (ro n (spans xs)) = _; rw [ro_shift xs n]; rfl
theorem ro_take (xs : List Int) (m : Nat) : ∀ n, ro n (xs.take m) = (ro n xs).take m
  | 0 => rfl
  | n + 1 => by show spans (ro n (xs.take m)) = _; rw [ro_take xs m n, spans_take]; rfl
theorem ro_still {xs : List Int} {n : Nat} (h : spans (ro n xs) = ro n xs) : ∀ k, ro (n + k) xs = ro n xs
  | 0 => rfl
  | k + 1 => by show spans (ro (n + k) xs) = _; rw [ro_still h k, h]
theorem ro_far {xs : List Int} {n : Nat} (h : spans (ro n xs) = ro n xs) (m : Nat) : ro m xs = ro (min m n) xs := by
  by_cases c : m ≤ n
  · rw [Nat.min_eq_left c]
  · rw [Nat.min_eq_right (by omega)]
    obtain ⟨k, rfl⟩ : ∃ k, m = n + k := ⟨m - n, by omega⟩
    exact ro_still h k
/-- from the first round on no entry gets less -/
theorem spans_ge {xs : List Int} (L : Lam xs) {i : Nat} (h : i < xs.length) : g xs i ≤ g (spans xs) i := by
  rw [spans_g h]
  unfold spn
  have l := L.lo i h
  have u := L.hi i h
  by_cases c : (bk xs (g xs i) i : Int) ≤ fc xs i
  · unfold fc at c; omega
  · exfalso
    have hf : fc xs i = i - g xs i + 1 := rfl
    have hb := bk_le xs (g xs i) i
    have k1 := bk_ge (xs := xs) (e := g xs i) (f := i) (by omega)
    have k2 := L.nest i (bk xs (g xs i) i - 1) h (by omega) (by omega)
    have hf2 : fc xs (bk xs (g xs i) i - 1) = ((bk xs (g xs i) i - 1 : Nat) : Int) - g xs (bk xs (g xs i) i - 1) + 1 := rfl
    omega
def sm (xs : List Int) : Nat → Int
  | 0 => 0
  | n + 1 => sm xs n + g xs n
theorem sm_le {xs ys : List Int} : ∀ {n : Nat}, (∀ i, i < n → g xs i ≤ g ys i) → sm xs n ≤ sm ys n
  | 0, _ => Int.le_refl _
  | n + 1, h => by
    have := sm_le (n := n) fun i hi => h i (Nat.lt_succ_of_lt hi)
    have := h n (Nat.lt_succ_self n)
    show sm xs n + g xs n ≤ sm ys n + g ys n
    omega
theorem sm_eq {xs ys : List Int} : ∀ {n : Nat}, (∀ i, i < n → g xs i ≤ g ys i) → sm ys n ≤ sm xs n → ∀ i, i < n → g xs i = g ys i
  | 0, _, _, i, hi => absurd hi (Nat.not_lt_zero _)
  | n + 1, h, hs, i, hi => by
    have h1 := sm_le (n := n) fun i hi => h i (Nat.lt_succ_of_lt hi)
    have h2 := h n (Nat.lt_succ_self n)
    have h3 : sm ys n + g ys n ≤ sm xs n + g xs n := hs
    by_cases e : i = n
    · subst e; omega
    · exact sm_eq (n := n) (fun i hi => h i (Nat.lt_succ_of_lt hi)) (by omega) i (by omega)
theorem sm_top {xs : List Int} (L : Lam xs) (hz : xs.length ≤ 100) : ∀ {n : Nat}, n ≤ xs.length → sm xs n ≤ 100 * n
  | 0, _ => by show (0:Int) ≤ 100 * 0; decide
  | n + 1, h => by
    have := sm_top L hz (n := n) (by omega)
    have := L.hi n (by omega)
    show sm xs n + g xs n ≤ 100 * ((n + 1 : Nat) : Int)
    omega
theorem sm_pos {xs : List Int} (L : Lam xs) : ∀ {n : Nat}, n ≤ xs.length → 0 ≤ sm xs n
  | 0, _ => Int.le_refl 0
  | n + 1, h => by
    have := sm_pos L (n := n) (by omega)
    have := L.lo n (by omega)
    show 0 ≤ sm xs n + g xs n
    omega
/-- so many rounds are needed -/
structure Nd (xs : List Int) (n : Nat) : Prop where
  still : spans (ro n xs) = ro n xs
  least : ∀ k, k < n → spans (ro k xs) ≠ ro k xs
theorem Nd.uniq {xs : List Int} {n m : Nat} (h1 : Nd xs n) (h2 : Nd xs m) : n = m := by
  rcases Nat.lt_trichotomy n m with h | h | h
  · exact absurd h1.still (h2.least n h)
  · exact h
  · exact absurd h2.still (h1.least m h)
theorem Nd.step {xs : List Int} {n : Nat} (h0 : spans xs ≠ xs) (h : Nd (spans xs) n) : Nd xs (n + 1) := by
  refine ⟨?_, fun k hk => ?_⟩
  · rw [← ro_shift]; exact h.still
  · cases k with
    | zero => exact h0
    | succ k => rw [← ro_shift]; exact h.least k (by omega)
theorem nd_lam : ∀ (m : Nat) (xs : List Int), Lam xs → xs.length ≤ 100 → 10000 - sm xs xs.length ≤ m → ∃ n, n ≤ m ∧ Nd xs n := by
  intro m
  induction m with
  | zero =>
    intro xs L hz hm
    refine ⟨0, Nat.le_refl 0, ?_, fun k hk => absurd hk (Nat.not_lt_zero _)⟩
    have t := sm_top (spans_lam xs) (by rw [spans_len]; exact hz) (n := xs.length) (by rw [spans_len]; exact Nat.le_refl _)
    exact (g_ext (spans_len xs).symm (sm_eq (fun i hi => spans_ge L hi) (by omega))).symm
  | succ m ih =>
    intro xs L hz hm
    by_cases e : spans xs = xs
    · exact ⟨0, Nat.zero_le _, e, fun k hk => absurd hk (Nat.not_lt_zero _)⟩
    · have hs : sm xs xs.length < sm (spans xs) xs.length := by
        refine Classical.byContradiction fun c => e (g_ext (spans_len xs).symm (sm_eq (fun i hi => spans_ge L hi) (by omega))).symm
      obtain ⟨n, hn, h⟩ := ih (spans xs) (spans_lam xs) (by rw [spans_len]; exact hz) (by rw [spans_len]; omega)
      exact ⟨n + 1, by omega, h.step e⟩
theorem nd_any (xs : List Int) (hz : xs.length ≤ 100) : ∃ n, n ≤ 10001 ∧ Nd xs n := by
  by_cases e : spans xs = xs
  · exact ⟨0, Nat.zero_le _, e, fun k hk => absurd hk (Nat.not_lt_zero _)⟩
  · have p := sm_pos (spans_lam xs) (n := xs.length) (by rw [spans_len]; exact Nat.le_refl _)
    obtain ⟨n, hn, h⟩ := nd_lam 10000 (spans xs) (spans_lam xs) (by rw [spans_len]; exact hz) (by rw [spans_len]; omega)
    exact ⟨n + 1, by omega, h.step e⟩
/-! ### skipping what a lesser entry covers -/
theorem bk_skip {xs : List Int} {e : Int} {f : Nat} (h : g xs f < e) : bk xs e (f + 1) = bk xs e (bk xs (g xs f) f) := by
  have key : ∀ d k : Nat, k + d = f → bk xs (g xs f) f ≤ k → bk xs e f = bk xs e k := by
    intro d
    induction d with
    | zero => intro k h1 _; have : k = f := by omega
              rw [this]
    | succ d ih =>
      intro k h1 h2
      rw [ih (k + 1) (by omega) (by omega)]
      show (if g xs k < e then bk xs e k else k + 1) = bk xs e k
      have := bk_lt (xs := xs) (e := g xs f) (f := f) (j := k) h2 (by omega)
      rw [if_pos (by omega)]
  show (if g xs f < e then bk xs e f else f + 1) = _
  rw [if_pos h]
  have hb := bk_le xs (g xs f) f
  exact key (f - bk xs (g xs f) f) _ (by omega) (Nat.le_refl _)
end Sx

set_option Elab.async false
set_option linter.all false
namespace Sx
open PySem PySem.Spec
open PyProof.Rows L2 Sx
theorem eqv_ints : ∀ ys zs : List Int, PyData.eqvAll (ys.map PyData.int) (zs.map PyData.int) = decide (ys = zs)
  | [], [] => rfl
  | [], z :: zs => by simp [PyData.eqvAll]
  | y :: ys, [] => by simp [PyData.eqvAll]
  | y :: ys, z :: zs => by
    simp only [List.map_cons, PyData.eqvAll, PyData.eqv, eqv_ints ys zs]
    by_cases h1 : y = z
    · subst h1; simp
    · simp [h1]
theorem eqv_tup (ys zs : List Int) : PyData.eqv (.tuple (ys.map PyData.int)) (.tuple (zs.map PyData.int)) = decide (ys = zs) := by
  simp only [PyData.eqv]; exact eqv_ints ys zs
theorem eqv_lst (ys zs : List Int) : PyData.eqv (.list (ys.map PyData.int)) (.list (zs.map PyData.int)) = decide (ys = zs) := by
  simp only [PyData.eqv]; exact eqv_ints ys zs
theorem lay_ints : ∀ ys : List Int, PyData.canLayAll0 (ys.map PyData.int) = true
  | [] => rfl
  | y :: ys => by simp only [List.map_cons, PyData.canLayAll0, PyData.canLay0, lay_ints ys]; rfl
theorem depth_ints : ∀ ys : List Int, PyData.depthAll (ys.map PyData.int) = 0
  | [] => rfl
  | y :: ys => by simp only [List.map_cons, PyData.depthAll, PyData.depth, depth_ints ys]; rfl
theorem shaped_tup (ys : List Int) : SeqAt.shaped (.tuple (ys.map PyData.int)) = true := by
  simp only [SeqAt.shaped, PyData.canLay0, PyData.depth, lay_ints, depth_ints]; rfl
theorem shaped_lst (ys : List Int) : SeqAt.shaped (.list (ys.map PyData.int)) = true := by
  simp only [SeqAt.shaped, PyData.canLay0, PyData.depth, lay_ints, depth_ints]; rfl
end Sx

set_option Elab.async false
set_option linter.all false
namespace Sx
open PySem PySem.Spec
open PyProof.Rows L2 Sx
/-- a row -/
structure Rw (xs : List Int) : Prop where
  lo : 1 ≤ xs.length
  hi : xs.length ≤ 100
  ok : ∀ x ∈ xs, -10 ^ 30 ≤ x ∧ x ≤ 10 ^ 30
/-- p holds the rows after 0 to n rounds -/
def Rws (K : PySem.W.Frag) (H : Hp) (p : Addr) (xs : List Int) (n : Nat) : Prop :=
  ∃ vs : List V, H p = some (.lst vs) ∧ vs.length = n + 1 ∧ ∀ j, j ≤ n → ∃ b, vs[j]? = some (.ref b) ∧ SqT K H b ((ro j xs).map V.int)
theorem Rws.ex {K : PySem.W.Frag} {H H' : Hp} {p : Addr} {xs : List Int} {n : Nat} (h : Rws K H p xs n) (X : Ex H H') : Rws K H' p xs n := by
  obtain ⟨vs, h1, h2, h3⟩ := h
  refine ⟨vs, X _ _ h1, h2, fun j hj => ?_⟩
  obtain ⟨b, hb, hS⟩ := h3 j hj
  exact ⟨b, hb, Evl.ex_t X hS⟩
def hind (xs : List Int) (i : Nat) : V := if (bk xs (g xs i) i : Int) - 1 < 0 then .non else .int ((bk xs (g xs i) i : Int) - 1)
theorem atI_last {vs : List V} {n : Nat} (h : vs.length = n + 1) : atI vs (-1) = vs[n]? := by
  unfold atI ixN
  rw [h, if_neg (by decide), if_pos (by omega)]
  show vs[((-1 : Int) + ((n + 1 : Nat) : Int)).toNat]? = vs[n]?
  rw [show ((-1 : Int) + ((n + 1 : Nat) : Int)).toNat = n by omega]
theorem atI_at {vs : List V} {i : Nat} (h : i < vs.length) : atI vs (i : Int) = vs[i]? := by
  unfold atI ixN
  have h2 : (i : Int) < (vs.length : Int) := by omega
  simp [h2]
/-- a tuple stays when a list that was not there changes -/
theorem sqT_mut {K : PySem.W.Frag} {H : Hp} {b p : Addr} {xs ys zs : List V} (h : SqT K H b xs) (hp : H p = some (.lst ys)) : SqT K (upd H p (.lst zs)) b xs := by
  rcases h with (h | ⟨o, h⟩) | h
  · refine Or.inl (Or.inl ?_)
    rw [upd_ne (by rintro rfl; rw [hp] at h; cases h)]
    exact h
  · refine Or.inl (Or.inr ⟨o, ?_⟩)
    rw [upd_ne (by rintro rfl; rw [hp] at h; cases h)]
    exact h
  · exact Or.inr h
end Sx
namespace Sx
/-- from r on the entry stays, and from no earlier number -/
structure RA (xs : List Int) (i r : Nat) : Prop where
  stay : ∀ k, r ≤ k → g (ro k xs) i = g (ro r xs) i
  least : ∀ r', r' < r → ∃ k, r' ≤ k ∧ g (ro k xs) i ≠ g (ro r' xs) i
theorem RA.uniq {xs : List Int} {i r s : Nat} (h1 : RA xs i r) (h2 : RA xs i s) : r = s := by
  rcases Nat.lt_trichotomy r s with h | h | h
  · obtain ⟨k, k1, k2⟩ := h2.least r h
    exact absurd (h1.stay k k1) k2
  · exact h
  · obtain ⟨k, k1, k2⟩ := h1.least s h
    exact absurd (h2.stay k k1) k2
theorem RA.take {xs : List Int} {i m r : Nat} (hi : i < m) (h : RA xs i r) : RA (xs.take m) i r := by
  have e : ∀ k, g (ro k (xs.take m)) i = g (ro k xs) i := fun k => by rw [ro_take, g_take hi]
  refine ⟨fun k hk => by rw [e, e]; exact h.stay k hk, fun r' hr => ?_⟩
  obtain ⟨k, k1, k2⟩ := h.least r' hr
  exact ⟨k, k1, by rw [e, e]; exact k2⟩
/-- after how many rounds two rows are equal -/
inductive Mt (xs ys : List Int) : L2.V → Prop
  | at (r : Nat) (h : ro r xs = ro r ys) (l : ∀ k, k < r → ro k xs ≠ ro k ys) : Mt xs ys (.int (r : Int))
  | no (l : ∀ k, ro k xs ≠ ro k ys) : Mt xs ys .non
end Sx

set_option Elab.async false
set_option linter.all false
namespace Sx
open PySem PySem.Spec
open PyProof.Rows L2 Sx
/-- the state of the draws: its last number counts them -/
def Bag (H : Hp) (t : Addr) (m : Int) : Prop := ∃ x0 x1 x2 : Int, H t = some (.lst [.int x0, .int x1, .int x2]) ∧ 0 ≤ x2 ∧ x2 ≤ m
theorem Bag.ex {H H' : Hp} {t : Addr} {m : Int} (T : Bag H t m) (e : Ex H H') : Bag H' t m := by
  obtain ⟨x0, x1, x2, h, r⟩ := T
  exact ⟨x0, x1, x2, e _ _ h, r⟩
theorem Bag.le {H : Hp} {t : Addr} {m n : Int} (T : Bag H t m) (h : m ≤ n) : Bag H t n := by
  obtain ⟨x0, x1, x2, h1, h4, h5⟩ := T
  exact ⟨x0, x1, x2, h1, h4, by omega⟩
theorem Bag.exB {H H' : Hp} {t b : Addr} {m : Int} (T : Bag H t m) (e : ExB b H H') (n : t ≠ b) : Bag H' t m := by
  obtain ⟨x0, x1, x2, h, r⟩ := T
  exact ⟨x0, x1, x2, e _ _ n h, r⟩
theorem Bag.get {H : Hp} {t : Addr} {m : Int} (T : Bag H t m) : ∃ xs, H t = some (.lst xs) := by
  obtain ⟨x0, x1, x2, h, r⟩ := T
  exact ⟨_, h⟩
theorem for_enumL {K : PySem.W.Frag} {a : Addr} {xs : List V} {g : TG} {tb : TS} {D : Ends} {σ : L2.St} {H : Hp} (Pv : Nat → L2.St → Hp → Prop) (h0 : Pv 0 σ H) (hl : ∀ i σ H, Pv i σ H → SqL K H a xs)
    (hs : ∀ i x T σ H, xs[i]? = some x → Pv i σ H → H T = none →
      g (.ref T) σ (upd H T (.tup [.int (i : Nat), x])) fun σ2 H2 => tb { D with nx := Pv (i + 1), ct := Pv (i + 1), bk := D.nx } σ2 H2)
    (hd : ∀ σ H, Pv xs.length σ H → D.nx σ H) :
    ∃ W : Nat → Nat → L2.St → Hp → Prop, (∃ m, W 0 m σ H) ∧ ∀ i m σ H, W i m σ H →
      ((Ite K a).stop i H ∧ D.nx σ H) ∨
      ((Ite K a).go i H ∧ ∃ N : L2.St → Hp → Prop, (∀ σ' H', N σ' H' → ∃ m', m' < m ∧ W (i + 1) m' σ' H') ∧
        ∀ x H', (Ite K a).yld i H x H' → g x σ H' fun σ2 H2 => tb { D with nx := N, ct := N, bk := D.nx } σ2 H2) := by
  refine ⟨fun i m σ H => i + m = xs.length ∧ Pv i σ H, ⟨xs.length, by omega, h0⟩, fun i m σ H ⟨e, p⟩ => ?_⟩
  have q := hl i σ H p
  by_cases hi : i < xs.length
  · refine .inr ⟨⟨xs, xs[i], q, List.getElem?_eq_getElem hi⟩, Pv (i + 1), fun σ' H' p' => ⟨m - 1, by omega, by omega, p'⟩, ?_⟩
    rintro x H' ⟨T, y, rfl, hT, rfl, hy⟩
    exact hs i y T σ H (hy xs q) p hT
  · have : i = xs.length := by omega
    subst this
    exact .inl ⟨⟨xs, q, Nat.le_refl _⟩, hd σ H p⟩
/-- what is new stays new -/
theorem none_back {H H' : Hp} {t b : Addr} (E : ExB t H H') (n : b ≠ t) (h : H' b = none) : H b = none := by
  cases q0 : H b with
  | none => rfl
  | some o =>
    have := E _ _ n q0
    rw [h] at this; cases this
theorem Bag.ne {H : Hp} {t b : Addr} {m : Int} (T : Bag H t m) (h : H b = none) : b ≠ t := by
  obtain ⟨_, hT⟩ := T.get
  exact (ne_of_none hT h).symm
/-- both branches of an if without else lead on -/
theorem iteJ {c : Prop} [Decidable c] {TB : Prop} {NX : L2.St → Hp → Prop} {σ : L2.St} {H : Hp} (Inv : L2.St → Hp → Prop) (k : ∀ σ' H', Inv σ' H' → NX σ' H')
    (h1 : (∀ σ' H', Inv σ' H' → NX σ' H') → c → TB) (h2 : ¬ c → Inv σ H) : if c then TB else NX σ H := by
  split
  · exact h1 k (by assumption)
  · exact k _ _ (h2 (by assumption))
theorem at8 {x1 x2 x3 x4 x5 x6 x7 x8 y1 y2 y3 y4 y5 y6 y7 y8 r : Int} (P : Int → Int → Prop) (r0 : 0 ≤ r) (r1 : r < 8) (h1 : P x1 y1) (h2 : P x2 y2) (h3 : P x3 y3) (h4 : P x4 y4) (h5 : P x5 y5) (h6 : P x6 y6) (h7 : P x7 y7) (h8 : P x8 y8) :
    ∃ v w : Int, atI [V.int x1, V.int x2, V.int x3, V.int x4, V.int x5, V.int x6, V.int x7, V.int x8] r = some (.int v) ∧ atI [V.int y1, V.int y2, V.int y3, V.int y4, V.int y5, V.int y6, V.int y7, V.int y8] r = some (.int w) ∧ P v w := by
  rcases (show r = 0 ∨ r = 1 ∨ r = 2 ∨ r = 3 ∨ r = 4 ∨ r = 5 ∨ r = 6 ∨ r = 7 by omega) with e | e | e | e | e | e | e | e <;> subst e
  · exact ⟨x1, y1, rfl, rfl, h1⟩
  · exact ⟨x2, y2, rfl, rfl, h2⟩
  · exact ⟨x3, y3, rfl, rfl, h3⟩
  · exact ⟨x4, y4, rfl, rfl, h4⟩
  · exact ⟨x5, y5, rfl, rfl, h5⟩
  · exact ⟨x6, y6, rfl, rfl, h6⟩
  · exact ⟨x7, y7, rfl, rfl, h7⟩
  · exact ⟨x8, y8, rfl, rfl, h8⟩
theorem iteJ2 {c : Prop} [Decidable c] {X TB : Prop} {NX : L2.St → Hp → Prop} {σ : L2.St} {H : Hp} (Inv : L2.St → Hp → Prop) (k : ∀ σ' H', Inv σ' H' → NX σ' H')
    (h1 : (∀ σ' H', Inv σ' H' → NX σ' H') → c → X) (h2 : ¬ c → Inv σ H) : if c then X else (if false = true then TB else NX σ H) := by
  split
  · exact h1 k (by assumption)
  · rw [if_neg (by decide)]; exact k _ _ (h2 (by assumption))
end Sx

set_option Elab.async false
set_option linter.all false
namespace Sx
/-! ### the stretches of a span row -/
def wbO (xs : List Int) (p q : Nat) : Bool := decide (fc xs q ≤ (p : Int) ∧ (p : Int) ≤ lst xs q)
theorem wbO_iff {xs : List Int} {p q : Nat} : wbO xs p q = true ↔ fc xs q ≤ (p : Int) ∧ (p : Int) ≤ lst xs q := decide_eq_true_iff
theorem le_lst {xs : List Int} {p q : Nat} (hq : q < xs.length) (hp : p < xs.length) (h : ∀ j, q < j → j ≤ p → (q : Int) < fc xs j) : (p : Int) ≤ lst xs q := by
  unfold lst
  cases e : par xs q with
  | none => simp only; omega
  | some b =>
    obtain ⟨h1, h2, h3, _⟩ := par_some.mp e
    simp only
    rcases Nat.lt_or_ge p b with c | c
    · omega
    · have := h b h1 c; omega
theorem fc_le {xs : List Int} (L : Lam xs) {q : Nat} (hq : q < xs.length) : 0 ≤ fc xs q ∧ fc xs q ≤ (q : Int) := by
  have a := L.lo q hq; have b := L.hi q hq
  unfold fc; constructor <;> omega
theorem str8 {xs : List Int} (L : Lam xs) : Str8 xs.length (wbO xs) where
  refl p hp := wbO_iff.mpr ⟨(fc_le L hp).2, (lst_in hp).1⟩
  anti p q hp hq h k := by
    obtain ⟨h1, h2⟩ := wbO_iff.mp h
    obtain ⟨k1, k2⟩ := wbO_iff.mp k
    rcases Nat.lt_trichotomy p q with c | c | c
    · have := lst_free hp c k2; omega
    · exact c
    · have := lst_free hq c h2; omega
  trans p q r hp hq hr h k := by
    obtain ⟨h1, h2⟩ := wbO_iff.mp h
    obtain ⟨k1, k2⟩ := wbO_iff.mp k
    have fr := fc_le L hr
    have fq := fc_le L hq
    refine wbO_iff.mpr ⟨?_, le_lst hr hp fun j j1 j2 => ?_⟩
    · rcases Nat.lt_or_ge p q with c | c
      · rcases Nat.lt_trichotomy q r with d | d | d
        · have := L.nest r q hr k1 d; omega
        · subst d; omega
        · have := lst_free hr d k2; omega
      · omega
    · rcases Nat.lt_or_ge q j with c | c
      · have a := lst_free hq c (by omega)
        rcases Nat.lt_or_ge r q with d | d
        · omega
        · rcases Int.lt_or_le (r : Int) (fc xs j) with e | e
          · exact e
          · have := L.nest j r (by omega) e j1; omega
      · exact lst_free hr j1 (by omega)
  tree r p q hr hp hq h k := by
    have key : ∀ p q, p < xs.length → q < xs.length → p < q → wbO xs r p = true → wbO xs r q = true → wbO xs p q = true ∨ wbO xs q p = true := by
      intro p q hp hq c h k
      obtain ⟨h1, h2⟩ := wbO_iff.mp h
      obtain ⟨k1, k2⟩ := wbO_iff.mp k
      have lq := lst_in hq
      have fp := fc_le L hp
      rcases Int.lt_or_le (p : Int) (fc xs q) with d | d
      · refine .inr (wbO_iff.mpr ⟨by omega, le_lst hp hq fun j j1 j2 => ?_⟩)
        rcases Nat.lt_or_ge r j with e | e
        · by_cases z : j = q
          · subst z; exact d
          · rcases Int.lt_or_le (p : Int) (fc xs j) with w | w
            · exact w
            · have := L.nest q j hq (by omega) (by omega); omega
        · exact lst_free hp j1 (by omega)
      · exact .inl (wbO_iff.mpr ⟨d, by omega⟩)
    rcases Nat.lt_trichotomy p q with c | c | c
    · exact key p q hp hq c h k
    · subst c; exact .inl (wbO_iff.mpr ⟨(fc_le L hp).2, (lst_in hp).1⟩)
    · exact (key q p hq hp c k h).symm
theorem smO_between {a b : Nat} : ∀ {n : Nat}, a ≤ b → b ≤ n → smO (fun i => b2 (decide (a ≤ i ∧ i < b))) n = b - a
  | 0, h1, h2 => by show 0 = b - a; omega
  | n + 1, h1, h2 => by
    show smO (fun i => b2 (decide (a ≤ i ∧ i < b))) n + b2 (decide (a ≤ n ∧ n < b)) = b - a
    rcases Nat.lt_or_ge n b with c | c
    · have eb : b = n + 1 := by omega
      subst eb
      rcases Nat.lt_or_ge n a with d | d
      · have ea : a = n + 1 := by omega
        subst ea
        have h0 : smO (fun i => b2 (decide (n + 1 ≤ i ∧ i < n + 1))) n = smO (fun _ => 0) n := smO_congr fun i hi => by
          show b2 (decide _) = 0
          rw [decide_eq_false (by omega)]; rfl
        rw [h0, smO_zero, decide_eq_false (by omega)]
        show 0 + 0 = _
        omega
      · have h0 : smO (fun i => b2 (decide (a ≤ i ∧ i < n + 1))) n = smO (fun i => b2 (decide (a ≤ i ∧ i < n))) n := smO_congr fun i hi => by
          show b2 (decide _) = b2 (decide _)
          congr 1
          exact decide_eq_decide.mpr (by omega)
        rw [h0, smO_between d (Nat.le_refl _), decide_eq_true (by omega)]
        show n - a + 1 = _
        omega
    · rw [smO_between h1 c, decide_eq_false (by omega)]; rfl
theorem lnO_eq {xs : List Int} (L : Lam xs) {q : Nat} (hq : q < xs.length) : ((lnO xs.length (wbO xs) q : Nat) : Int) = lst xs q - fc xs q + 1 := by
  have f := fc_le L hq
  have l := lst_in hq
  have e : lnO xs.length (wbO xs) q = smO (fun i => b2 (decide ((fc xs q).toNat ≤ i ∧ i < (lst xs q + 1).toNat))) xs.length := smO_congr fun i hi => by
    show b2 (wbO xs i q) = b2 (decide _)
    congr 1
    unfold wbO
    exact decide_eq_decide.mpr (by omega)
  rw [e, smO_between (by omega) (by omega)]
  omega

/-! ### rows with given spans -/
theorem spans_of {xs ys : List Int} (L : Lam xs) (hl : ys.length = xs.length) (h1 : ∀ p q, p < q → q < xs.length → fc xs q ≤ (p : Int) → g ys p < g ys q)
    (h2 : ∀ p q, q < p → p < xs.length → (p : Int) ≤ lst xs q → g ys p ≤ g ys q) : spans ys = xs := by
  refine g_ext (by rw [spans_len, hl]) fun i hi => ?_
  rw [spans_len, hl] at hi
  rw [spans_g (by omega)]
  have f := fc_le L hi
  have eg : g xs i = (i : Int) - fc xs i + 1 := by unfold fc; omega
  have eb : bk ys (g ys i) i = (fc xs i).toNat := by
    refine bk_eq (by omega) (fun j j1 j2 => h1 j i j2 hi (by omega)) fun hb => ?_
    refine h2 i _ (by omega) hi (le_lst (by omega) hi fun j j1 j2 => ?_)
    by_cases e : j = i
    · subst e; omega
    · have := L.nest i j hi (by omega) (by omega); omega
  unfold spn
  rw [eb, eg]; omega
theorem of_spans {xs ys : List Int} (hs : spans ys = xs) : (∀ p q, p < q → q < xs.length → fc xs q ≤ (p : Int) → g ys p < g ys q) ∧ (∀ p q, q < p → p < xs.length → (p : Int) ≤ lst xs q → g ys p ≤ g ys q) := by
  subst hs
  rw [spans_len]
  have F : ∀ q, q < ys.length → fc (spans ys) q = bk ys (g ys q) q := fun q hq => spans_fc hq
  refine ⟨fun p q hpq hq h => ?_, fun p => ?_⟩
  · rw [F q hq] at h
    exact bk_lt (by omega) hpq
  · induction p using Nat.strongRecOn with
    | ind p ih =>
      intro q hqp hp h
      have hq : q < (spans ys).length := by rw [spans_len]; omega
      have hf := lst_free hq hqp h
      rw [F p hp] at hf
      have hb := bk_le ys (g ys p) p
      have hg := bk_ge (xs := ys) (e := g ys p) (f := p) (by omega)
      by_cases e : bk ys (g ys p) p - 1 = q
      · rw [e] at hg; exact hg
      · exact Int.le_trans hg (ih _ (by omega) q (by omega) (by omega) (by omega))

/-! ### sequences by numbers -/
section
variable {n : Nat} {wi : Nat → Nat → Bool}
/-- what a place that can come next adds -/
def wy (n : Nat) (wi : Nat → Nat → Bool) (m : Nat) (u : Nat → Bool) (p : Nat) : Nat := if avO n wi u p = true then EO n wi m (remO u p) else 0
theorem EO_succ (m : Nat) (u : Nat → Bool) : EO n wi (m + 1) u = smO (wy n wi m u) n := rfl
structure PkO (n : Nat) (wi : Nat → Nat → Bool) (m : Nat) (u : Nat → Bool) (k p k' : Nat) : Prop where
  lt : p < n
  ok : avO n wi u p = true
  eq : k = smO (wy n wi m u) p + k'
  less : k' < EO n wi m (remO u p)
theorem smO_mono {f : Nat → Nat} {a : Nat} : ∀ {b : Nat}, a ≤ b → smO f a ≤ smO f b
  | 0, h => by rw [Nat.le_zero.mp h]; exact Nat.le_refl _
  | b + 1, h => by
    by_cases e : a = b + 1
    · subst e; exact Nat.le_refl _
    · exact Nat.le_trans (smO_mono (by omega)) (Nat.le_add_right _ _)
theorem PkO.top {m : Nat} {u : Nat → Bool} {k p k' : Nat} (h : PkO n wi m u k p k') : k < smO (wy n wi m u) (p + 1) := by
  show k < smO (wy n wi m u) p + wy n wi m u p
  have : wy n wi m u p = EO n wi m (remO u p) := if_pos h.ok
  rw [this, h.eq]
  have := h.less
  omega
theorem PkO.fn {m : Nat} {u : Nat → Bool} {k p k' q k'' : Nat} (h : PkO n wi m u k p k') (h2 : PkO n wi m u k q k'') : p = q ∧ k' = k'' := by
  have t1 := h.top
  have t2 := h2.top
  have e1 := h.eq
  have e2 := h2.eq
  rcases Nat.lt_trichotomy p q with c | c | c
  · have := smO_mono (f := wy n wi m u) (show p + 1 ≤ q by omega); omega
  · subst c; exact ⟨rfl, by omega⟩
  · have := smO_mono (f := wy n wi m u) (show q + 1 ≤ p by omega); omega
theorem PkO.order {m : Nat} {u : Nat → Bool} {k p k' j q j' : Nat} (h : PkO n wi m u k p k') (h2 : PkO n wi m u j q j') (c : p < q) : k < j := by
  have := smO_mono (f := wy n wi m u) (show p + 1 ≤ q by omega)
  have t1 := h.top
  have e2 := h2.eq
  omega
theorem PkO.ex {m : Nat} {u : Nat → Bool} {k : Nat} : ∀ {t : Nat}, t ≤ n → k < smO (wy n wi m u) t → ∃ p k', PkO n wi m u k p k'
  | 0, _, h => absurd h (Nat.not_lt_zero _)
  | t + 1, ht, h => by
    rcases Nat.lt_or_ge k (smO (wy n wi m u) t) with c | c
    · exact PkO.ex (by omega) c
    · have h : k < smO (wy n wi m u) t + wy n wi m u t := h
      by_cases a : avO n wi u t = true
      · have e : wy n wi m u t = EO n wi m (remO u t) := if_pos a
        rw [e] at h
        exact ⟨t, k - smO (wy n wi m u) t, ht, a, by omega, by omega⟩
      · have e : wy n wi m u t = 0 := if_neg a
        omega
theorem PkO.lt_E {m : Nat} {u : Nat → Bool} {k p k' : Nat} (h : PkO n wi m u k p k') : k < EO n wi (m + 1) u :=
  Nat.lt_of_lt_of_le h.top (smO_mono h.lt)
/-- s is the sequence with the number k -/
inductive Sq (n : Nat) (wi : Nat → Nat → Bool) : Nat → (Nat → Bool) → Nat → List Nat → Prop
  | nil (u) : Sq n wi 0 u 0 []
  | cons {m u k p k' s} : PkO n wi m u k p k' → Sq n wi m (remO u p) k' s → Sq n wi (m + 1) u k (p :: s)
theorem Sq.len {m : Nat} {u : Nat → Bool} {k : Nat} {s : List Nat} (h : Sq n wi m u k s) : s.length = m := by
  induction h with
  | nil => rfl
  | cons _ _ ih => rw [List.length_cons, ih]
theorem Sq.lt {m : Nat} {u : Nat → Bool} {k : Nat} {s : List Nat} (h : Sq n wi m u k s) : k < EO n wi m u := by
  cases h with
  | nil => exact Nat.one_pos
  | cons p _ => exact p.lt_E
theorem Sq.fn {m : Nat} {u : Nat → Bool} {k : Nat} {s t : List Nat} (h : Sq n wi m u k s) (h2 : Sq n wi m u k t) : s = t := by
  induction h generalizing t with
  | nil => cases h2; rfl
  | cons p q ih =>
    cases h2 with
    | cons p2 q2 =>
      obtain ⟨e1, e2⟩ := p.fn p2
      subst e1 e2
      rw [ih q2]
theorem Sq.inj {m : Nat} {u : Nat → Bool} {k j : Nat} {s : List Nat} (h : Sq n wi m u k s) (h2 : Sq n wi m u j s) : k = j := by
  induction h generalizing j with
  | nil => cases h2; rfl
  | cons p q ih =>
    cases h2 with
    | cons p2 q2 => rw [p.eq, p2.eq, ih q2]
theorem Sq.ex : ∀ {m : Nat} {u : Nat → Bool} {k : Nat}, k < EO n wi m u → ∃ s, Sq n wi m u k s
  | 0, u, k, h => by
    have h : k < 1 := h
    have e : k = 0 := by omega
    subst e
    exact ⟨[], .nil u⟩
  | m + 1, u, k, h => by
    obtain ⟨p, k', P⟩ := PkO.ex (Nat.le_refl n) h
    obtain ⟨s, S⟩ := Sq.ex P.less
    exact ⟨p :: s, .cons P S⟩
/-- one place after the other, each when it can come next -/
def LE (n : Nat) (wi : Nat → Nat → Bool) : (Nat → Bool) → List Nat → Prop
  | _, [] => True
  | u, p :: s => p < n ∧ avO n wi u p = true ∧ LE n wi (remO u p) s
theorem Sq.le {m : Nat} {u : Nat → Bool} {k : Nat} {s : List Nat} (h : Sq n wi m u k s) : LE n wi u s := by
  induction h with
  | nil => exact True.intro
  | cons p _ ih => exact ⟨p.lt, p.ok, ih⟩
theorem LE.sq : ∀ {m : Nat} {u : Nat → Bool} {s : List Nat}, LE n wi u s → s.length = m → ∃ k, Sq n wi m u k s
  | 0, u, [], _, _ => ⟨0, .nil u⟩
  | m + 1, u, p :: s, h, hl => by
    obtain ⟨k, S⟩ := LE.sq h.2.2 (Nat.succ.inj hl)
    exact ⟨_, .cons ⟨h.1, h.2.1, rfl, S.lt⟩ S⟩
/-- the sequences ascend with the numbers -/
def lexN : List Nat → List Nat → Bool
  | [], [] => false
  | [], _ :: _ => true
  | _ :: _, [] => false
  | a :: s, b :: t => if a = b then lexN s t else decide (a < b)
theorem Sq.order {m : Nat} {u : Nat → Bool} {k j : Nat} {s t : List Nat} (h : Sq n wi m u k s) (h2 : Sq n wi m u j t) : lexN s t = true ↔ k < j := by
  induction h generalizing j t with
  | nil => cases h2; simp [lexN]
  | @cons m u k p k' s P S ih =>
    cases h2 with
    | @cons _ _ _ q j' t P2 S2 =>
      show (if p = q then lexN s t else decide (p < q)) = true ↔ k < j
      by_cases c : p = q
      · subst c
        rw [if_pos rfl, ih S2, P.eq, P2.eq]; omega
      · rw [if_neg c, decide_eq_true_iff]
        constructor
        · exact P.order P2
        · intro h
          rcases Nat.lt_or_ge p q with d | d
          · exact d
          · have := P2.order P (show q < p by omega); omega
/-- where a place stands in such a sequence -/
theorem LE.mem : ∀ {u : Nat → Bool} {s : List Nat}, LE n wi u s → ∀ p, p ∈ s → p < n ∧ u p = true
  | _, [], _, p, h => nomatch h
  | u, q :: s, h, p, hp => by
    rcases List.mem_cons.mp hp with e | e
    · subst e; exact ⟨h.1, (avO_iff.mp h.2.1).1⟩
    · obtain ⟨h1, h2⟩ := h.2.2.mem p e
      exact ⟨h1, (remO_iff.mp h2).1⟩
theorem LE.nodup : ∀ {u : Nat → Bool} {s : List Nat}, LE n wi u s → s.Nodup
  | _, [], _ => List.nodup_nil
  | u, q :: s, h => by
    rw [List.nodup_cons]
    refine ⟨fun hm => ?_, h.2.2.nodup⟩
    exact (remO_iff.mp (h.2.2.mem q hm).2).2 rfl
/-- all of them are there -/
theorem LE.all : ∀ {u : Nat → Bool} {s : List Nat}, LE n wi u s → s.length = cnO n u → ∀ p, p < n → u p = true → p ∈ s
  | u, [], _, hl, p, hp, hu => by
    have := smO_pos (f := fun i => b2 (u i)) hp (by show 0 < b2 (u p); rw [hu]; exact Nat.one_pos)
    have hl : (0 : Nat) = cnO n u := hl
    unfold cnO at hl
    omega
  | u, q :: s, h, hl, p, hp, hu => by
    by_cases e : p = q
    · subst e; exact List.mem_cons_self ..
    · have := cnO_rem (n := n) h.1 (avO_iff.mp h.2.1).1
      rw [List.length_cons] at hl
      exact List.mem_cons_of_mem _ (h.2.2.all (by omega) p hp (remO_iff.mpr ⟨hu, e⟩))
/-- p in the stretch of q comes behind q -/
theorem LE.behind : ∀ {u : Nat → Bool} {s : List Nat}, LE n wi u s → ∀ {i j p q : Nat}, s[i]? = some p → s[j]? = some q → p ≠ q → wi p q = true → j < i
  | _, [], _, i, j, p, q, h, _, _, _ => by simp at h
  | u, a :: s, h, i, j, p, q, hi, hj, hne, hw => by
    cases j with
    | zero =>
      cases i with
      | zero => exact absurd (Option.some.inj (hi.symm.trans hj)) hne
      | succ i => omega
    | succ j =>
      have hj' : s[j]? = some q := hj
      have hq := h.2.2.mem q (List.mem_of_getElem? hj')
      cases i with
      | zero =>
        have e : a = p := Option.some.inj hi
        subst e
        exact ((avO_iff.mp h.2.1).2 q hq.1 (fun e => hne e.symm) (remO_iff.mp hq.2).1 hw).elim
      | succ i => exact Nat.succ_lt_succ (h.2.2.behind hi hj' hne hw)
end
theorem cnO_full (n : Nat) : cnO n (fun _ => true) = n := by
  unfold cnO
  rw [smO_b2]
  rw [List.filter_eq_self.mpr fun _ _ => rfl, List.length_range]
theorem DnO.full {n : Nat} {wi : Nat → Nat → Bool} : DnO n wi fun _ => true := fun _ _ _ _ _ _ => rfl
/-- the number of orders with these spans -/
def ordsN (xs : List Int) : Nat := EO xs.length (wbO xs) xs.length fun _ => true
end Sx

set_option Elab.async false
set_option linter.all false
set_option maxRecDepth 100000
namespace Sx
open PySem PySem.Spec
open PyProof.Rows L2
/-- where the class of that name stands -/
def CA (K : PySem.W.Frag) (x : Str) : Addr := match PySem.W.nsIn K mainGlobals x with
  | some (some (.ref C)) => C
  | _ => 0
theorem CA_of {K : PySem.W.Frag} {x : Str} {C : Addr} (h : PySem.W.nsIn K mainGlobals x = some (some (.ref C))) : C = CA K x := by
  unfold CA; rw [h]
structure ClsAt (K : PySem.W.Frag) (mg : Str → Option Value) (x : Str) (fs : List Str) : Prop where
  cl : Cls K (CA K x)
  mgC : mg x = some (.ref (CA K x))
  na : ∀ f ∈ fs, NoAttr K (CA K x) f
  mks : PySem.W.makesIn K (CA K x) = true
  kcp : PySem.W.keepIn K (.ref (CA K x)) = true
structure DefAtM (K : PySem.W.Frag) (C : Addr) (m q : Str) (st : Stmt) (ps : List Str) (f : Addr) (fd : FuncData) : Prop where
  fn : L2.Fun K m q st f fd
  me : Meth K C m f
  bi : Binds K fd ps []
section
variable {P : Program} {w : World} {K : PySem.W.Frag} {mg : Str → Option Value} {base : Heap} {x m q : Str} {st : Stmt} {N ps fs : List Str} {C f : Addr} {fd : FuncData} {k : Nat} {sp : Sp}
theorem DefAtM.met (D : DefAtM K (CA K x) m q st ps f fd) (Z : ClsAt K mg x fs) (S : FnScope N ps (defScope st)) (ar : ∀ vs H Q E, sp vs H Q E → vs.length = ps.length)
    (hb : ∀ (cdv : Value) (A : Around) (outer : List Env) (s : Shared) (H : Hp) (vs : List V) (Q : VK) (E : XK),
      Room k (A.deeper (envOfC q (defScope st) s.heap.objs.size f cdv)) → sp vs H Q E →
      ∃ t, PSs (cxOf C8.CX0 P w K mg base N q (defScope st) f cdv A outer s H E).nox (defBody st) t ∧
        t { nx := fun _ H' => Q .non H', rt := Q } (start N vs) H) : C8.Met P w K mg base (k + 1) (CA K x) m sp [] :=
  ⟨f, fd, ps, [], Z.cl, D.me, D.fn.ok S ar hb, D.bi, .nil⟩
theorem DefAtM.mak (D : DefAtM K (CA K x) "__init__" q st ps f fd) (Z : ClsAt K mg x fs) (S : FnScope N ps (defScope st)) (ar : ∀ vs H Q E, sp vs H Q E → vs.length = ps.length)
    (hb : ∀ (cdv : Value) (A : Around) (outer : List Env) (s : Shared) (H : Hp) (vs : List V) (Q : VK) (E : XK),
      Room k (A.deeper (envOfC q (defScope st) s.heap.objs.size f cdv)) → sp vs H Q E →
      ∃ t, PSs (cxOf C8.CX0 P w K mg base N q (defScope st) f cdv A outer s H E).nox (defBody st) t ∧
        t { nx := fun _ H' => Q .non H', rt := Q } (start N vs) H) : C8.Mak P w K mg base (k + 1) x (CA K x) sp [] :=
  ⟨f, fd, ps, [], ⟨Z.mks, D.me.at_, D.me.fn, Z.kcp⟩, D.fn.ok S ar hb, Z.mgC, D.bi, .nil⟩
end
end Sx

set_option Elab.async false
set_option linter.all false
namespace Sx
/-! ### long rows: runs -/
abbrev Rn := List (Int × Nat)
def xpn (rs : Rn) : List Int := rs.flatMap fun p => List.replicate p.2 p.1
theorem xpn_app (a b : Rn) : xpn (a ++ b) = xpn a ++ xpn b := List.flatMap_append
theorem xpn_one (p : Int × Nat) : xpn [p] = List.replicate p.2 p.1 := by simp [xpn]
theorem xpn_cons (p : Int × Nat) (l : Rn) : xpn (p :: l) = List.replicate p.2 p.1 ++ xpn l := by simp [xpn]
/-- one more block behind -/
def putR (acc : Rn) (p : Int × Nat) : Rn :=
  match acc.getLast? with
  | some q => if q.1 = p.1 then acc.dropLast ++ [(p.1, q.2 + p.2)] else acc ++ [p]
  | none => acc ++ [p]
def mrg (l : Rn) : Rn := l.foldl putR []
theorem last_split {acc : Rn} {q : Int × Nat} (h : acc.getLast? = some q) : acc = acc.dropLast ++ [q] := by
  have hne : acc ≠ [] := fun e => by rw [e] at h; cases h
  rw [List.getLast?_eq_some_getLast hne] at h
  cases h
  exact (List.dropLast_concat_getLast hne).symm
theorem xpn_put (acc : Rn) (p : Int × Nat) : xpn (putR acc p) = xpn acc ++ List.replicate p.2 p.1 := by
  unfold putR
  cases h : acc.getLast? with
  | none => simp only; rw [xpn_app, xpn_one]
  | some q =>
    simp only
    by_cases c : q.1 = p.1
    · rw [if_pos c]
      conv => rhs; rw [last_split h]
      rw [xpn_app, xpn_app, xpn_one, xpn_one, List.append_assoc, c]
      simp only [List.replicate_append_replicate]
    · rw [if_neg c, xpn_app, xpn_one]
theorem xpn_fold : ∀ (l acc : Rn), xpn (l.foldl putR acc) = xpn acc ++ xpn l
  | [], acc => by simp [xpn]
  | p :: l, acc => by rw [List.foldl_cons, xpn_fold l, xpn_put, xpn_cons, List.append_assoc]
theorem xpn_mrg (l : Rn) : xpn (mrg l) = xpn l := by unfold mrg; rw [xpn_fold]; simp [xpn]
/-- counts from 1 on, neighbours with other entries -/
def Cn : Rn → Prop
  | [] => True
  | [p] => 1 ≤ p.2
  | p :: q :: l => 1 ≤ p.2 ∧ p.1 ≠ q.1 ∧ Cn (q :: l)
theorem Cn.tail {p : Int × Nat} {l : Rn} (h : Cn (p :: l)) : Cn l := by
  cases l with
  | nil => trivial
  | cons q l => exact h.2.2
theorem Cn.pos {p : Int × Nat} {l : Rn} (h : Cn (p :: l)) : 1 ≤ p.2 := by
  cases l with
  | nil => exact h
  | cons q l => exact h.1
theorem Cn.all : ∀ {l : Rn}, Cn l → ∀ p ∈ l, 1 ≤ p.2
  | [], _, p, h => nomatch h
  | q :: l, c, p, h => by
    rcases List.mem_cons.mp h with e | e
    · rw [e]; exact c.pos
    · exact Cn.all c.tail p e
theorem xpn_head {p : Int × Nat} {l : Rn} (h : 1 ≤ p.2) : (xpn (p :: l))[0]? = some p.1 := by
  rw [xpn_cons, List.getElem?_append_left (by rw [List.length_replicate]; omega), List.getElem?_replicate, if_pos (by omega)]
theorem Cn.uniq : ∀ {l m : Rn}, Cn l → Cn m → xpn l = xpn m → l = m
  | [], [], _, _, _ => rfl
  | [], p :: m, _, hm, h => by
    have := xpn_head (l := m) hm.pos
    rw [← h] at this; cases this
  | p :: l, [], hl, _, h => by
    have := xpn_head (l := l) hl.pos
    rw [h] at this; cases this
  | p :: l, q :: m, hl, hm, h => by
    have e1 : p.1 = q.1 := by
      have a := xpn_head (l := l) hl.pos
      rw [h, xpn_head hm.pos] at a
      exact (Option.some.inj a).symm
    have no : ∀ {p q : Int × Nat} {l m : Rn}, Cn (p :: l) → p.1 = q.1 → xpn (p :: l) = xpn (q :: m) → ¬ p.2 < q.2 := by
      intro p q l m hl e1 h hlt
      rw [xpn_cons, xpn_cons, e1, show q.2 = p.2 + (q.2 - p.2) by omega, ← List.replicate_append_replicate, List.append_assoc] at h
      have h2 := List.append_cancel_left h
      cases l with
      | nil =>
        have := congrArg List.length h2
        rw [List.length_append, List.length_replicate] at this
        simp [xpn] at this
        omega
      | cons r l =>
        have a := xpn_head (l := l) hl.2.2.pos
        rw [h2, List.getElem?_append_left (by rw [List.length_replicate]; omega), List.getElem?_replicate, if_pos (by omega)] at a
        have := Option.some.inj a
        exact hl.2.1 (e1.trans this)
    have e2 : p.2 = q.2 := by
      have a := no hl e1 h
      have b := no hm e1.symm h.symm
      omega
    have e : p = q := Prod.ext e1 e2
    subst e
    rw [xpn_cons, xpn_cons] at h
    rw [Cn.uniq hl.tail hm.tail (List.append_cancel_left h)]
theorem Cn.snoc : ∀ {l : Rn} {p : Int × Nat}, Cn l → 1 ≤ p.2 → (∀ q, l.getLast? = some q → q.1 ≠ p.1) → Cn (l ++ [p])
  | [], p, _, h, _ => h
  | [a], p, h1, h, h2 => ⟨h1, h2 a rfl, h⟩
  | a :: b :: l, p, h1, h, h2 => ⟨h1.1, h1.2.1, Cn.snoc (l := b :: l) h1.2.2 h fun q hq => h2 q (by rw [List.getLast?_cons_cons]; exact hq)⟩
theorem Cn.init : ∀ {l : Rn} {p : Int × Nat}, Cn (l ++ [p]) → Cn l ∧ 1 ≤ p.2 ∧ ∀ q, l.getLast? = some q → q.1 ≠ p.1
  | [], p, h => ⟨trivial, h, fun q hq => nomatch hq⟩
  | [a], p, h => ⟨h.1, h.2.2, fun q hq => by cases hq; exact h.2.1⟩
  | a :: b :: l, p, h => by
    obtain ⟨h1, h2, h3⟩ := Cn.init (l := b :: l) h.2.2
    exact ⟨⟨h.1, h.2.1, h1⟩, h2, fun q hq => h3 q (by rw [List.getLast?_cons_cons] at hq; exact hq)⟩
theorem Cn.put {acc : Rn} {p : Int × Nat} (h : Cn acc) (hp : 1 ≤ p.2) : Cn (putR acc p) := by
  unfold putR
  cases e : acc.getLast? with
  | none =>
    simp only
    rw [List.getLast?_eq_none_iff] at e
    subst e
    exact hp
  | some q =>
    simp only
    by_cases c : q.1 = p.1
    · rw [if_pos c]
      rw [last_split e] at h
      obtain ⟨h1, h2, h3⟩ := Cn.init h
      exact Cn.snoc h1 (by show 1 ≤ q.2 + p.2; omega) fun r hr => by rw [← c]; exact h3 r hr
    · rw [if_neg c]
      exact Cn.snoc h hp fun r hr => by rw [e] at hr; cases hr; exact c
theorem Cn.fold : ∀ {l acc : Rn}, Cn acc → (∀ p ∈ l, 1 ≤ p.2) → Cn (l.foldl putR acc)
  | [], _, h, _ => h
  | p :: l, acc, h, hl => Cn.fold (l := l) (Cn.put h (hl p (List.mem_cons_self ..))) fun q hq => hl q (List.mem_cons_of_mem _ hq)
theorem Cn.mrg {l : Rn} (h : ∀ p ∈ l, 1 ≤ p.2) : Cn (mrg l) := Cn.fold (acc := []) trivial h
theorem put_len (acc : Rn) (p : Int × Nat) : (putR acc p).length ≤ acc.length + 1 := by
  unfold putR
  cases e : acc.getLast? with
  | none => simp
  | some q =>
    simp only
    by_cases c : q.1 = p.1
    · rw [if_pos c, List.length_append, List.length_dropLast]; simp only [List.length_cons, List.length_nil]; omega
    · rw [if_neg c]; simp
theorem fold_len : ∀ (l acc : Rn), (l.foldl putR acc).length ≤ acc.length + l.length
  | [], acc => Nat.le_refl _
  | p :: l, acc => by
    have h1 := fold_len l (putR acc p)
    have h2 := put_len acc p
    rw [List.foldl_cons, List.length_cons]
    omega
theorem mrg_len (l : Rn) : (mrg l).length ≤ l.length := by have := fold_len l []; simpa [mrg] using this
theorem mrg_uniq {l m : Rn} (hl : ∀ p ∈ l, 1 ≤ p.2) (hm : Cn m) (h : xpn l = xpn m) : mrg l = m :=
  Cn.uniq (Cn.mrg hl) hm (by rw [xpn_mrg, h])
theorem mrg_cn {l : Rn} (h : Cn l) : mrg l = l := mrg_uniq h.all h rfl

/-! ### a round of a long row -/
def es (rs : Rn) : List Int := rs.map (·.1)
def ct (rs : Rn) (i : Nat) : Nat := (rs.getD i (0, 0)).2
def tt (rs : Rn) (k : Nat) : Nat := (xpn (rs.take k)).length
theorem es_len (rs : Rn) : (es rs).length = rs.length := List.length_map _
theorem rs_at {rs : Rn} {i : Nat} (h : i < rs.length) : rs[i]? = some (g (es rs) i, ct rs i) := by
  unfold g es ct
  rw [List.getD_eq_getElem?_getD, List.getD_eq_getElem?_getD, List.getElem?_map, List.getElem?_eq_getElem h]
  rfl
theorem tt_zero (rs : Rn) : tt rs 0 = 0 := rfl
theorem take_at {rs : Rn} {i : Nat} (h : i < rs.length) : rs.take (i + 1) = rs.take i ++ [(g (es rs) i, ct rs i)] := by
  rw [List.take_add_one, rs_at h]; rfl
theorem tt_succ {rs : Rn} {k : Nat} (h : k < rs.length) : tt rs (k + 1) = tt rs k + ct rs k := by
  unfold tt
  rw [take_at h, xpn_app, xpn_one, List.length_append, List.length_replicate]
theorem tt_all (rs : Rn) : tt rs rs.length = (xpn rs).length := by unfold tt; rw [List.take_length]
theorem tt_mono {rs : Rn} {k m : Nat} (h : k ≤ m) (hm : m ≤ rs.length) : tt rs k ≤ tt rs m := by
  induction m with
  | zero => rw [show k = 0 by omega]; exact Nat.le_refl _
  | succ m ih =>
    by_cases c : k = m + 1
    · rw [c]; exact Nat.le_refl _
    · have := ih (by omega) (by omega)
      rw [tt_succ (by omega)]
      omega
def vR (rs : Rn) (i : Nat) : Int := (tt rs i : Int) - tt rs (bk (es rs) (g (es rs) i) i) + 1
/-- a value, and ones behind it -/
def pat (v : Nat → Int) (c : Nat → Nat) (n : Nat) : Rn := (List.range n).flatMap fun i => (v i, 1) :: (if 1 < c i then [(1, c i - 1)] else [])
def turn (rs : Rn) : Rn := pat (vR rs) (ct rs) rs.length
theorem pat_succ (v : Nat → Int) (c : Nat → Nat) (n : Nat) : pat v c (n + 1) = pat v c n ++ ((v n, 1) :: (if 1 < c n then [(1, c n - 1)] else [])) := by
  unfold pat; rw [List.range_succ, List.flatMap_append]; simp
theorem pat_len (v : Nat → Int) (c : Nat → Nat) : ∀ n, (pat v c n).length ≤ 2 * n
  | 0 => Nat.le_refl _
  | n + 1 => by
    have := pat_len v c n
    rw [pat_succ, List.length_append, List.length_cons]
    split <;> simp <;> omega
theorem pat_pos (v : Nat → Int) (c : Nat → Nat) : ∀ n, ∀ p ∈ pat v c n, 1 ≤ p.2
  | 0, p, h => nomatch h
  | n + 1, p, h => by
    rw [pat_succ] at h
    rcases List.mem_append.mp h with h | h
    · exact pat_pos v c n p h
    · rcases List.mem_cons.mp h with h | h
      · rw [h]; exact Nat.le_refl _
      · split at h
        · rw [List.mem_singleton] at h; rw [h]; show 1 ≤ c n - 1; omega
        · exact nomatch h
theorem xpn_pat_succ (v : Nat → Int) (c : Nat → Nat) (n : Nat) : xpn (pat v c (n + 1)) = xpn (pat v c n) ++ [v n] ++ List.replicate (c n - 1) 1 := by
  rw [pat_succ, xpn_app, xpn_cons, List.append_assoc]
  congr 1
  split
  · rw [xpn_one]; rfl
  · rw [show c n - 1 = 0 by omega]; rfl
theorem g_leftL {xs ys : List Int} {i : Nat} (h : i < xs.length) : g (xs ++ ys) i = g xs i := by
  unfold g
  rw [List.getD_eq_getElem?_getD, List.getElem?_append_left h, List.getD_eq_getElem?_getD]
theorem bk_leftL {xs ys : List Int} {e : Int} {f : Nat} (h : f ≤ xs.length) : bk (xs ++ ys) e f = bk xs e f := bk_congr fun j hj => by rw [g_leftL (by omega)]
theorem spans_snocR (xs : List Int) (e : Int) : spans (xs ++ [e]) = spans xs ++ [(xs.length : Int) - bk xs e xs.length + 1] := by
  have h : (spans (xs ++ [e])).take xs.length = spans xs := by rw [← spans_take, List.take_left']; rfl
  have hl : (spans (xs ++ [e])).length = xs.length + 1 := by rw [spans_len, List.length_append]; rfl
  have h2 : spans (xs ++ [e]) = (spans (xs ++ [e])).take xs.length ++ [g (spans (xs ++ [e])) xs.length] := by
    conv => lhs; rw [← List.take_length (l := spans (xs ++ [e])), hl]
    rw [List.take_add_one, g_get (by omega)]; rfl
  rw [h2, h, spans_g (by rw [List.length_append]; simp)]
  unfold spn
  rw [g_last, bk_leftL (Nat.le_refl _)]
theorem spans_rep (xs : List Int) (e : Int) : ∀ c, spans (xs ++ List.replicate (c + 1) e) = spans (xs ++ [e]) ++ List.replicate c 1
  | 0 => by simp
  | c + 1 => by
    rw [show List.replicate (c + 1 + 1) e = List.replicate (c + 1) e ++ [e] from List.replicate_succ', ← List.append_assoc, spans_snocR, spans_rep xs e c, List.append_assoc]
    congr 1
    rw [show List.replicate (c + 1) (1 : Int) = List.replicate c 1 ++ [1] from List.replicate_succ']
    congr 1
    have hl : (xs ++ List.replicate (c + 1) e).length = xs.length + c + 1 := by rw [List.length_append, List.length_replicate]; omega
    rw [hl]
    have : bk (xs ++ List.replicate (c + 1) e) e (xs.length + c + 1) = xs.length + c + 1 := by
      unfold bk
      rw [if_neg]
      have : g (xs ++ List.replicate (c + 1) e) (xs.length + c) = e := by
        unfold g
        rw [List.getD_eq_getElem?_getD, List.getElem?_append_right (by omega), List.getElem?_replicate, if_pos (by omega)]; rfl
      omega
    rw [this]
    simp
/-- ones behind what is at least 1 -/
theorem spans_ones {xs : List Int} (h : ∀ i, i < xs.length → 1 ≤ g xs i) (h0 : 1 ≤ xs.length) : ∀ c, spans (xs ++ List.replicate c 1) = spans xs ++ List.replicate c 1
  | 0 => by simp
  | c + 1 => by
    rw [List.replicate_succ', ← List.append_assoc, spans_snocR, spans_ones h h0 c, List.append_assoc]
    congr 1
    congr 1
    have hl : (xs ++ List.replicate c 1).length = xs.length + c := by rw [List.length_append, List.length_replicate]
    rw [hl]
    have : bk (xs ++ List.replicate c 1) 1 (xs.length + c) = xs.length + c := by
      obtain ⟨k, hk⟩ : ∃ k, xs.length + c = k + 1 := ⟨xs.length + c - 1, by omega⟩
      rw [hk]
      unfold bk
      rw [if_neg]
      by_cases c2 : k < xs.length
      · rw [g_leftL c2]; have := h k c2; omega
      · have : g (xs ++ List.replicate c 1) k = 1 := by
          unfold g
          rw [List.getD_eq_getElem?_getD, List.getElem?_append_right (by omega), List.getElem?_replicate, if_pos (by omega)]; rfl
        omega
    rw [this]
    simp
theorem bk_rep {xs : List Int} {a e : Int} : ∀ {c : Nat}, 1 ≤ c → bk (xs ++ List.replicate c a) e (xs.length + c) = if a < e then bk xs e xs.length else xs.length + c := by
  intro c hc
  have hg : ∀ j, j < c → g (xs ++ List.replicate c a) (xs.length + j) = a := fun j hj => by
    unfold g
    rw [List.getD_eq_getElem?_getD, List.getElem?_append_right (by omega), List.getElem?_replicate, if_pos (by omega)]; rfl
  by_cases h : a < e
  · rw [if_pos h]
    have key : ∀ j, j ≤ c → bk (xs ++ List.replicate c a) e (xs.length + j) = bk xs e xs.length := by
      intro j
      induction j with
      | zero => intro _; exact bk_leftL (Nat.le_refl _)
      | succ j ih =>
        intro hj
        show (if g (xs ++ List.replicate c a) (xs.length + j) < e then bk (xs ++ List.replicate c a) e (xs.length + j) else _) = _
        rw [hg j (by omega), if_pos h]
        exact ih (by omega)
    exact key c (Nat.le_refl _)
  · rw [if_neg h]
    obtain ⟨k, rfl⟩ : ∃ k, c = k + 1 := ⟨c - 1, by omega⟩
    show (if g (xs ++ List.replicate (k + 1) a) (xs.length + k) < e then _ else xs.length + k + 1) = _
    rw [hg k (by omega), if_neg h]
    rfl
/-- the hinderer's place among the blocks -/
theorem bk_xpn {rs : Rn} (hp : ∀ p ∈ rs, 1 ≤ p.2) (e : Int) : ∀ k, k ≤ rs.length → bk (xpn (rs.take k)) e (xpn (rs.take k)).length = tt rs (bk (es rs) e k)
  | 0, _ => by simp [xpn, bk, tt]
  | k + 1, h => by
    have hk : k < rs.length := by omega
    have hc : 1 ≤ ct rs k := hp (g (es rs) k, ct rs k) (List.mem_of_getElem? (rs_at hk))
    have ih := bk_xpn hp e k (by omega)
    rw [take_at hk, xpn_app, xpn_one, List.length_append, List.length_replicate, bk_rep hc]
    show _ = tt rs (if g (es rs) k < e then bk (es rs) e k else k + 1)
    by_cases c : g (es rs) k < e
    · rw [if_pos c, if_pos c, ih]
    · rw [if_neg c, if_neg c, tt_succ hk]; rfl
theorem turn_ok {rs : Rn} (hp : ∀ p ∈ rs, 1 ≤ p.2) : ∀ k, k ≤ rs.length → xpn (pat (vR rs) (ct rs) k) = spans (xpn (rs.take k))
  | 0, _ => rfl
  | k + 1, h => by
    have hk : k < rs.length := by omega
    have hc : 1 ≤ ct rs k := hp (g (es rs) k, ct rs k) (List.mem_of_getElem? (rs_at hk))
    rw [xpn_pat_succ, turn_ok hp k (by omega), take_at hk, xpn_app, xpn_one]
    obtain ⟨c, hcc⟩ : ∃ c, ct rs k = c + 1 := ⟨ct rs k - 1, by omega⟩
    show _ = spans (xpn (rs.take k) ++ List.replicate (ct rs k) (g (es rs) k))
    rw [hcc, spans_rep, spans_snocR, bk_xpn hp _ k (by omega)]
    rfl
theorem xpn_turn {rs : Rn} (hp : ∀ p ∈ rs, 1 ≤ p.2) : xpn (turn rs) = spans (xpn rs) := by
  have := turn_ok hp rs.length (Nat.le_refl _)
  rw [List.take_length] at this
  exact this
theorem ge_pat {v : Nat → Int} {c : Nat → Nat} (hv : ∀ i, 1 ≤ v i) : ∀ n x, x ∈ xpn (pat v c n) → 1 ≤ x
  | 0, x, h => nomatch h
  | n + 1, x, h => by
    rw [xpn_pat_succ] at h
    rcases List.mem_append.mp h with h | h
    · rcases List.mem_append.mp h with h | h
      · exact ge_pat hv n x h
      · rw [List.mem_singleton] at h; rw [h]; exact hv n
    · rw [(List.mem_replicate.mp h).2]; decide
theorem g_mem {xs : List Int} {i : Nat} (h : i < xs.length) : g xs i ∈ xs := List.mem_of_getElem? (g_get h)
/-- the pattern stays -/
theorem pat_step {v : Nat → Int} {c : Nat → Nat} (hv : ∀ i, 1 ≤ v i) : ∃ w : Nat → Int, (∀ i, 1 ≤ w i) ∧ ∀ n, spans (xpn (pat v c n)) = xpn (pat w c n) := by
  refine ⟨fun i => ((xpn (pat v c i)).length : Int) - bk (xpn (pat v c i)) (v i) (xpn (pat v c i)).length + 1, fun i => ?_, fun n => ?_⟩
  · have := bk_le (xpn (pat v c i)) (v i) (xpn (pat v c i)).length
    show (1 : Int) ≤ _ - _ + 1
    omega
  · induction n with
    | zero => rfl
    | succ n ih =>
      rw [xpn_pat_succ, xpn_pat_succ, spans_ones ?_ ?_, spans_snocR, ih]
      · intro i hi
        have hm := g_mem hi
        rcases List.mem_append.mp hm with h | h
        · exact ge_pat hv n _ h
        · rw [List.mem_singleton] at h; rw [h]; exact hv n
      · rw [List.length_append]; simp
theorem ro_pat {rs : Rn} (hp : ∀ p ∈ rs, 1 ≤ p.2) : ∀ t, ∃ v : Nat → Int, (∀ i, 1 ≤ v i) ∧ ro (t + 1) (xpn rs) = xpn (pat v (ct rs) rs.length)
  | 0 => by
    refine ⟨fun i => if i < rs.length then vR rs i else 1, fun i => ?_, ?_⟩
    · show (1 : Int) ≤ (if i < rs.length then vR rs i else 1)
      split
      · unfold vR
        have := bk_le (es rs) (g (es rs) i) i
        have := tt_mono (rs := rs) this (by omega)
        omega
      · decide
    · show spans (xpn rs) = _
      rw [← xpn_turn hp]
      unfold turn
      have : ∀ k, k ≤ rs.length → pat (vR rs) (ct rs) k = pat (fun i => if i < rs.length then vR rs i else 1) (ct rs) k := by
        intro k
        induction k with
        | zero => intro _; rfl
        | succ k ih => intro h; rw [pat_succ, pat_succ, ih (by omega), if_pos (show k < rs.length by omega)]
      rw [this _ (Nat.le_refl _)]
  | t + 1 => by
    obtain ⟨v, hv, h⟩ := ro_pat hp t
    obtain ⟨w, hw, h2⟩ := pat_step (c := ct rs) hv
    exact ⟨w, hw, by show spans (ro (t + 1) (xpn rs)) = _; rw [h, h2]⟩
/-- the runs after so many rounds are few -/
theorem runs_few {rs R : Rn} (hp : ∀ p ∈ rs, 1 ≤ p.2) (hR : Cn R) {t : Nat} (h : xpn R = ro t (xpn rs)) : R.length ≤ 2 * rs.length := by
  cases t with
  | zero =>
    rw [← mrg_uniq hp hR h.symm]
    have := mrg_len rs
    omega
  | succ t =>
    obtain ⟨v, hv, h2⟩ := ro_pat hp t
    have := mrg_uniq (pat_pos v (ct rs) rs.length) hR (h2.symm.trans h.symm)
    rw [← this]
    exact Nat.le_trans (mrg_len _) (pat_len _ _ _)
theorem sm_topN {xs : List Int} (L : Lam xs) : ∀ {n : Nat}, n ≤ xs.length → sm xs n ≤ (xs.length : Int) * n
  | 0, _ => by show (0 : Int) ≤ _ * ((0 : Nat) : Int); simp
  | n + 1, h => by
    have := sm_topN L (n := n) (by omega)
    have h2 := L.hi n (by omega)
    show sm xs n + g xs n ≤ (xs.length : Int) * ((n + 1 : Nat) : Int)
    have e : (xs.length : Int) * ((n + 1 : Nat) : Int) = (xs.length : Int) * (n : Int) + xs.length := by
      push_cast
      rw [Int.mul_add, Int.mul_one]
    rw [e]
    have : (n : Int) + 1 ≤ xs.length := by omega
    omega
/-- any row stands still after some rounds -/
theorem nd_lamN : ∀ (m : Nat) {xs : List Int}, Lam xs → ((xs.length : Int) * xs.length - sm xs xs.length).toNat ≤ m → ∃ n, Nd xs n := by
  intro m
  induction m with
  | zero =>
    intro xs L hm
    refine ⟨0, ?_, fun k hk => absurd hk (Nat.not_lt_zero _)⟩
    show spans xs = xs
    have t1 := sm_topN (spans_lam xs) (n := xs.length) (by rw [spans_len]; exact Nat.le_refl _)
    rw [spans_len] at t1
    have e := sm_eq (xs := xs) (ys := spans xs) (n := xs.length) (fun i hi => spans_ge L hi) (by omega)
    exact (g_ext (spans_len xs).symm fun i hi => e i hi).symm
  | succ m ih =>
    intro xs L hm
    by_cases c : spans xs = xs
    · exact ⟨0, c, fun k hk => absurd hk (Nat.not_lt_zero _)⟩
    · have t1 := sm_topN (spans_lam xs) (n := xs.length) (by rw [spans_len]; exact Nat.le_refl _)
      rw [spans_len] at t1
      have lt : sm xs xs.length < sm (spans xs) xs.length := by
        have le := sm_le (xs := xs) (ys := spans xs) (n := xs.length) fun i hi => spans_ge L hi
        by_cases q : sm (spans xs) xs.length ≤ sm xs xs.length
        · have e := sm_eq (xs := xs) (ys := spans xs) (n := xs.length) (fun i hi => spans_ge L hi) q
          exact absurd (g_ext (spans_len xs).symm fun i hi => e i hi).symm c
        · omega
      obtain ⟨n, hn⟩ := ih (xs := spans xs) (spans_lam xs) (by rw [spans_len]; omega)
      exact ⟨n + 1, Nd.step c hn⟩
theorem nd_ex (xs : List Int) : ∃ n, Nd xs n := by
  by_cases c : spans xs = xs
  · exact ⟨0, c, fun k hk => absurd hk (Nat.not_lt_zero _)⟩
  · obtain ⟨n, hn⟩ := nd_lamN _ (spans_lam xs) (Nat.le_refl _)
    exact ⟨n + 1, Nd.step c hn⟩
end Sx

set_option Elab.async false
set_option linter.all false
set_option maxRecDepth 100000
namespace Sx
open PySem PySem.Spec
open PyProof.Rows L2
/-- a def of the module under its name, with n positional values and the keywords ks behind them -/
structure DefAtN (K : PySem.W.Frag) (mg : Str → Option Value) (x : Str) (st : Stmt) (ps : List Str) (n : Nat) (ks : List Str) (f : Addr) (fd : FuncData) : Prop where
  fn : L2.Fun K x x st f fd
  at_ : mg x = some (.ref f)
  bi : KBn K fd ps n ks (fun us ws => us ++ ws) (fun vs zs => vs ++ zs)
structure CalN (P : Program) (w : World) (K : PySem.W.Frag) (mg : Str → Option Value) (base : Heap) (k : Nat) (x : Str) (sp : Sp) (n : Nat) (ks : List Str) : Prop where
  ex : ∃ (f : Addr) (fd : FuncData) (ps : List Str), FnOk P w K mg base CX0 k f fd ps sp ∧ mg x = some (.ref f) ∧ PySem.W.keepIn K (.ref f) = true ∧ KBn K fd ps n ks (fun us ws => us ++ ws) (fun vs zs => vs ++ zs)
section
variable {P : Program} {w : World} {K : PySem.W.Frag} {mg : Str → Option Value} {base : Heap} {x : Str} {st : Stmt} {N ps ks : List Str} {f : Addr} {fd : FuncData} {k n : Nat} {sp : Sp}
theorem DefAtN.cal (D : DefAtN K mg x st ps n ks f fd) (S : FnScope N ps (defScope st)) (ar : ∀ vs H Q E, sp vs H Q E → vs.length = ps.length)
    (hb : ∀ (cdv : Value) (A : Around) (outer : List Env) (s : Shared) (H : Hp) (vs : List V) (Q : VK) (E : XK),
      Room k (A.deeper (envOfC x (defScope st) s.heap.objs.size f cdv)) → sp vs H Q E →
      ∃ t, PSs (cxOf CX0 P w K mg base N x (defScope st) f cdv A outer s H E).nox (defBody st) t ∧
        t { nx := fun _ H' => Q .non H', rt := Q } (start N vs) H) : CalN P w K mg base (k + 1) x sp n ks :=
  ⟨f, fd, ps, D.fn.ok S ar hb, D.at_, D.fn.kp, D.bi⟩
end
theorem pe_kn {X : Cx} {k j n : Nat} {x : Str} {sp : Sp} {ks : List Str} {p pos : Pos} {e : Expr} {es : List Expr} {kws : List Keyword} {t tk : TA}
    (c : CalN X.prog X.w X.K X.mg X.base k x sp n ks) (hr : Room j X.A) (hk : k ≤ j) (hg : Gl X x) (ha : PA X (e :: es) t) (hkw : PK X kws tk)
    (hall : (backToKw pos (keywordEach kws X.env)).all (·.1.isSome) = true := by rfl) (hks : (backToKw pos (keywordEach kws X.env)).filterMap (·.1) = ks := by rfl)
    (hdb : (x == ("__debug__" : Str)) = false := by decide) (he : starEach (e :: es) X.env = (false, eval e X.env) :: starEach es X.env := by rfl)
    (hpl : ((backTo pos (starEach (e :: es) X.env)).any (·.1) || (backToKw pos (keywordEach kws X.env)).any (·.1.isNone)) = false := by rfl) :
    PE X (.Call (.Name x p) (e :: es) kws pos) (tCallN n ks.length sp (fun vs zs => vs ++ zs) C8.E0 t tk) := by
  obtain ⟨f, fd, ps, F, hm, kp, b⟩ := c.ex
  exact pe_callN F (hr.mono hk) hg hm kp b C8.pass0 ha hkw hall hks hdb he hpl
end Sx
namespace Sx
open PySem PySem.Spec
open PyProof.Rows L2
theorem Bag.tup {K : PySem.W.Frag} {H H' : Hp} {t a : Addr} {m : Int} {xs : List V} (T : Bag H t m) (E : ExB t H H') (h : SqT K H a xs) : SqT K H' a xs := by
  obtain ⟨_, hT⟩ := T.get
  exact E.tup hT h
theorem at2 {x1 x2 hi r : Int} (r0 : 0 ≤ r) (r1 : r < 2) (h1 : 0 ≤ x1 ∧ x1 ≤ hi) (h2 : 0 ≤ x2 ∧ x2 ≤ hi) : ∃ v : Int, atI [V.int x1, V.int x2] r = some (.int v) ∧ 0 ≤ v ∧ v ≤ hi := by
  rcases (show r = 0 ∨ r = 1 by omega) with e | e <;> subst e
  · exact ⟨x1, rfl, h1⟩
  · exact ⟨x2, rfl, h2⟩
theorem Rw.take {xs : List Int} (R : Rw xs) {k : Nat} (h : 1 ≤ k) : Rw (xs.take k) := by
  refine ⟨?_, ?_, fun x hx => R.ok x (List.mem_of_mem_take hx)⟩
  · rw [List.length_take]; have := R.lo; omega
  · rw [List.length_take]; have := R.hi; omega
/-- the final row of a front part -/
theorem final_take {xs : List Int} {k n m : Nat} (h : Nd xs n) (h2 : Nd (xs.take k) m) : (ro n xs).take k = ro m (xs.take k) := by
  have e1 := ro_far h.still (max n m)
  have e2 := ro_far h2.still (max n m)
  rw [Nat.min_eq_right (Nat.le_max_left _ _)] at e1
  rw [Nat.min_eq_right (Nat.le_max_right _ _)] at e2
  rw [← e1, ← e2, ro_take]
end Sx
namespace Sx
open PySem PySem.Spec
open PyProof.Rows L2
section
variable {X : Cx}
theorem cr_minT (hc : X.calm = true) : CallR X (.builtin "min") (rBestT false X.K) := by
  intro pins s σ H vs us Q I r h
  obtain ⟨a, ns, rfl, hs, hne, q⟩ := h
  obtain ⟨its, rv, hl, _⟩ := I.tuple hs
  rw [Vals.ref1 r]
  obtain ⟨xs, e⟩ := rv.ints.allInts.items
  have hn : numsOf (intItems xs).toList = ns := by rw [← e]; exact rv.ints.numsOf
  rw [nums_intItems] at hn
  rw [e] at hl
  subst hn
  have hsz : 0 < xs.size := by
    rcases Nat.eq_zero_or_pos xs.size with z | z
    · exact absurd (by rw [Array.eq_empty_of_size_eq_zero z]; rfl) hne
    · exact z
  have hne2 : a ≠ s.heap.objs.size := Nat.ne_of_lt hl.lt
  refine call_min_walk (wpAny_pyIter_tuple hl ?_)
  refine ⟨_, _, _, _, _, _, _, rfl, Walks.tuple (A := X.A.in1) (I.ok.hd hc) _ a hne2 (intItems xs), ⟨⟨_, Heap.get?_push_size _ rfl, rfl, rfl⟩, hl.keeps fun b o e => Heap.get?_push_of_some _ e⟩, fun b hb => ?_,
    by simpa [intItems] using hsz, CmpOf.ints_lt (numAt xs) (fun _ _ => intItems_at), fun v h' tk hP hk => ?_⟩
  · show b < (s.heap.push _).objs.size
    rw [Heap.size_push]
    rcases List.mem_cons.mp hb with z | z
    · rw [z]; exact Nat.lt_succ_self _
    · rw [List.mem_singleton.mp z]; exact Nat.lt_succ_of_lt hl.lt
  · have hv : (intItems xs)[argBest (fun i j => decide (numAt xs i < numAt xs j)) (xs.size - 1)]? = some v := by simpa [intItems] using hP
    obtain ⟨t, rfl⟩ := intItems_at hv
    obtain ⟨h1, h2⟩ := argBest_lt (numAt xs) (xs.size - 1)
    refine ⟨.int _, H, I.kept (fun b o eo => hk b o (fun hm => ?_) (Heap.get?_push_of_some _ eo)), ⟨_, rfl⟩, q _ ?_ fun y hy => ?_⟩
    · have z := Heap.lt_size eo
      rw [List.mem_singleton] at hm
      rw [hm] at z
      exact Nat.lt_irrefl _ z
    · rw [numAt_eq]
      exact PySem.getD_mem (by rw [List.length_map, Array.length_toList]; omega)
    · rw [if_neg (by decide)]
      obtain ⟨j, hj, rfl⟩ := mem_getD hy
      rw [List.length_map, Array.length_toList] at hj
      rw [← numAt_eq]
      exact h2 j (by omega)
end
end Sx
namespace Sx
open PySem PySem.Spec
open PyProof.Rows L2
theorem cut_init (ys : List V) (z : V) : cutV (ys ++ [z]) none (some (-1)) = ys := by
  unfold cutV
  have e1 : HT.sIx (ys ++ [z]).length (ys ++ [z]).length (some (-1)) = ys.length := by
    unfold HT.sIx
    show (if (-1 : Int) < 0 then ((-1 : Int) + ((ys ++ [z]).length : Nat)).toNat else _) = _
    rw [if_pos (by decide), List.length_append]
    show ((-1 : Int) + ((ys.length + 1 : Nat) : Int)).toNat = ys.length
    omega
  rw [e1, HT.sIx_none, List.drop_zero, Nat.sub_zero, List.take_left']
  rfl
theorem slA_init {K : PySem.W.Frag} {H : Hp} {c : Addr} {ys : List V} {z : V} {Q : VK} (hS : SqT K H c (ys ++ [z])) (q : ∀ a' H', Ex H H' → SqT K H' a' ys → Q (.ref a') H') : rSlA K (.ref c) none (some (-1)) H Q := by
  refine ⟨c, _, rfl, hS, fun hw => ?_, fun _ p hp => q p _ (Evl.Ex.new hp) (SqT.of (by rw [upd_same, cut_init]))⟩
  exfalso
  have h := hw.2
  unfold HT.sIx at h
  have h : (if (-1 : Int) < 0 then ((-1 : Int) + ((ys ++ [z]).length : Nat)).toNat else min ((-1 : Int).toNat) (ys ++ [z]).length) = (ys ++ [z]).length := h
  rw [if_pos (by decide), List.length_append] at h
  have h : ((-1 : Int) + ((ys.length + 1 : Nat) : Int)).toNat = ys.length + 1 := h
  omega
theorem g_left {xs ys : List Int} {i : Nat} (h : i < xs.length) : g (xs ++ ys) i = g xs i := by
  unfold g
  rw [List.getD_eq_getElem?_getD, List.getD_eq_getElem?_getD, List.getElem?_append_left h]
theorem g_snoc {xs : List Int} {y : Int} : g (xs ++ [y]) xs.length = y := by
  unfold g
  rw [List.getD_eq_getElem?_getD, List.getElem?_append_right (Nat.le_refl _), Nat.sub_self]; rfl
/-- one more entry that the last one hinders -/
theorem spans_snoc {xs : List Int} {y : Int} (h : 1 ≤ xs.length) (hy : y ≤ g xs (xs.length - 1)) : spans (xs ++ [y]) = spans xs ++ [1] := by
  have hlen : (xs ++ [y]).length = xs.length + 1 := by rw [List.length_append]; rfl
  refine g_ext (by rw [spans_len, hlen, List.length_append, spans_len]; rfl) fun i hi => ?_
  rw [spans_len, hlen] at hi
  by_cases c : i < xs.length
  · have e : (spans xs) = (spans (xs ++ [y])).take xs.length := by
      rw [← spans_take, List.take_left']
      rfl
    rw [g_left (by rw [spans_len]; exact c), e, g_take c]
  · have ei : i = xs.length := by omega
    subst ei
    rw [spans_g (by omega)]
    have e2 : g (spans xs ++ [1]) xs.length = 1 := by
      have := g_snoc (xs := spans xs) (y := 1)
      rw [spans_len] at this
      exact this
    rw [e2]
    unfold spn
    rw [g_snoc]
    have eb : bk (xs ++ [y]) y xs.length = xs.length := by
      obtain ⟨n, hn⟩ : ∃ n, xs.length = n + 1 := ⟨xs.length - 1, by omega⟩
      rw [hn]
      show (if g (xs ++ [y]) n < y then bk (xs ++ [y]) y n else n + 1) = n + 1
      rw [g_left (by omega), if_neg]
      have : xs.length - 1 = n := by omega
      rw [this] at hy
      omega
    rw [eb]; omega
theorem ro_snoc {xs : List Int} {y : Int} (h : 1 ≤ xs.length) (hy : y ≤ g xs (xs.length - 1)) : ∀ k, ro (k + 1) (xs ++ [y]) = ro (k + 1) xs ++ [1]
  | 0 => spans_snoc h hy
  | k + 1 => by
    show spans (ro (k + 1) (xs ++ [y])) = spans (ro (k + 1) xs) ++ [1]
    rw [ro_snoc h hy k, spans_snoc (by rw [ro_len]; exact h)]
    have L := spans_lam (ro k xs)
    have := L.lo ((ro (k + 1) xs).length - 1) (by rw [ro_len, spans_len, ro_len]; omega)
    exact this
theorem spn_snoc {xs : List Int} {y : Int} (h : 1 ≤ xs.length) (hy : y ≤ g xs (xs.length - 1)) : spn (xs ++ [y]) xs.length = 1 := by
  have e : g (spans (xs ++ [y])) xs.length = 1 := by
    rw [spans_snoc h hy]
    have := g_snoc (xs := spans xs) (y := 1)
    rw [spans_len] at this
    exact this
  rw [spans_g (by rw [List.length_append]; exact Nat.lt_succ_self _)] at e
  exact e
end Sx

set_option Elab.async false
set_option linter.all false
set_option maxRecDepth 100000
namespace Sx
open PySem PySem.Spec
open PyProof.Rows L2
/-- a def of the module under its name, the last of its parameters with defaults -/
structure DefAtP (K : PySem.W.Frag) (mg : Str → Option Value) (x : Str) (st : Stmt) (ps : List Str) (dvs : List V) (f : Addr) (fd : FuncData) : Prop where
  fn : FunD K x x (defArgs st) (defBody st) (defScope st) dvs [] f fd
  at_ : mg x = some (.ref f)
  bi : Binds K fd ps []
  bd : ∃ ds, Vals dvs ds ∧ Binds K fd ps ds
section
variable {P : Program} {w : World} {K : PySem.W.Frag} {mg : Str → Option Value} {base : Heap} {x : Str} {st : Stmt} {N ps : List Str} {dvs : List V} {f : Addr} {fd : FuncData} {k : Nat} {sp : Sp}
theorem DefAtP.fok (D : DefAtP K mg x st ps dvs f fd) (S : FnScope N ps (defScope st)) (ar : ∀ vs H Q E, sp vs H Q E → vs.length = ps.length)
    (hb : ∀ (cdv : Value) (A : Around) (outer : List Env) (s : Shared) (H : Hp) (vs : List V) (Q : VK) (E : XK),
      Room k (A.deeper (envOfC x (defScope st) s.heap.objs.size f cdv)) → sp vs H Q E →
      ∃ t, PSs (cxOf CX0 P w K mg base N x (defScope st) f cdv A outer s H E).nox (defBody st) t ∧
        t { nx := fun _ H' => Q .non H', rt := Q } (start N vs) H) : FnOk P w K mg base CX0 (k + 1) f fd ps sp :=
  D.fn.ok S ar fun cdv A outer s H vs Q E hr h => by
    obtain ⟨t, h1, q⟩ := hb cdv A outer s H vs Q E hr h
    exact ⟨t, h1.nox, q⟩
theorem DefAtP.cal (D : DefAtP K mg x st ps dvs f fd) (F : FnOk P w K mg base CX0 k f fd ps sp) : C8.Cal P w K mg base k x sp [] :=
  ⟨f, fd, ps, [], F, D.at_, D.fn.kp, D.bi, .nil⟩
theorem DefAtP.cald (D : DefAtP K mg x st ps dvs f fd) (F : FnOk P w K mg base CX0 k f fd ps sp) : C8.Cal P w K mg base k x sp dvs := by
  obtain ⟨ds, h1, h2⟩ := D.bd
  exact ⟨f, fd, ps, ds, F, D.at_, D.fn.kp, h2, h1⟩
theorem funD_b0 {qual : Str} {params : Arguments} {body : List Stmt} {scope : Scope} (F : FunD K x qual params body scope dvs [] f fd) (hd : dvs ≠ [])
    (h : ∀ (T : Addr) (kV doc pm : Value) (an : Option Addr) (cdv ct : Value) (us its : List Value), us.length = ps.length → its.length = dvs.length →
      ∃ k, bindArgs (PySem.W.fnOf x qual params body scope (.ref T) kV doc pm an cdv ct) ⟨us, []⟩ = seqItems? (.ref T) >>= k ∧ k (some its.toArray) = pure (ps.zip (us ++ its.drop dvs.length))) : Binds K fd ps [] := by
  obtain ⟨ds, hv, hb⟩ := F.binds1 ps.length dvs.length hd (by rw [Nat.sub_self, Nat.add_zero]) h
  rw [List.drop_length] at hv
  cases hv
  exact hb
end
end Sx

set_option Elab.async false
set_option linter.all false
set_option maxRecDepth 100000
set_option maxHeartbeats 4000000
namespace Sx
open PySem PySem.Spec
open PyProof.Rows L2
section
variable {P : Program} {w : World} {A : Around} {E : Value → Shared → Prop} {s : Shared} {a : Addr}
/-- sorted of a set of ints, many of them -/
theorem sorted_setB {S : Int → Bool} {n : Nat} {Q : Value → Shared → Prop} (R : SetR w s.heap a S n) (hh : A.handled = none) (h64 : n ≤ 1000)
    (hQ : ∀ s' p (out : Array Value) (c : Nat) (ns : List Int), (∀ b o, s.heap.get? b = some o → s'.heap.get? b = some o) → s'.gens = s.gens → s'.os = s.os → s.heap.objs.size ≤ p →
      s'.heap.get? p = some (seqObj "list" out c) → IntsAre out.toList ns → ns.Pairwise (· < ·) → (∀ k, k ∈ ns ↔ S k = true) → ns.length = n → Q (.ref p) s') :
    wpAny (model P w) A (call (.builtin "sorted") [.ref a]) Q E s := by
  obtain ⟨o, es, ep, t, ho, hex, hd, g, nd, hm, hb, hf, hn, hr, hl⟩ := R
  refine Calls.call_function_entry kind_sorted plain_sorted entry_sorted (args_sorted1 _) ?_
  unfold Builtin.«sorted»
  refine wpAny_bind (m := checkCount "sorted" 1 1 _) (wpAny_pure ?_)
  refine wpAny_bind (collect_set (A := A.in1) hh ⟨o, ho, hex.1, hd⟩ hf hb hr hl fun s1 vs k1 hz g1 o1 pm => ?_)
  have hvl : vs.length = n := by rw [pm.length_eq, List.length_map, Array.length_toList]; exact hn
  have hI : IntsAre vs (vs.map Builtin.Re.reRawOf) := ints_of vs fun v hv => by
    obtain ⟨e, he, q⟩ := List.mem_map.mp (pm.mem_iff.mp hv)
    obtain ⟨k, tk, h1, _⟩ := g e he
    exact ⟨k, tk, by rw [← q]; exact h1⟩
  have pk : (vs.map Builtin.Re.reRawOf).Perm (es.toList.map keyOf) := by
    have q := pm.map Builtin.Re.reRawOf
    rw [List.map_map] at q
    exact q
  have hz2 : vs.length ≤ sizeLine := by rw [hvl, sizeLine_eq]; omega
  refine wpAny_bind (wpAny_newList ?_ hz2)
  have hoL : (s1.heap.push (seqObj "list" vs.toArray 0)).get? s1.heap.objs.size = some (seqObj "list" vs.toArray 0) := Heap.get?_push_size _ rfl
  refine wpAny_bind (wpAny_holding (wpAny_call_entry slot_list_sort ⟨_, hoL, rfl⟩ entry_list_sort
    (SrtO.list_sort_ord SrtO.swo_int hoL hz2 (fun h2 => SrtO.ints_sortable hI h2) fun out h1 h2 => ⟨_, rfl, ?_⟩) (args_list_sort _)))
  obtain ⟨a1, a2, a3⟩ := SrtO.ints_out hI h1 h2
  obtain ⟨c, hc⟩ := sortedHeap_at (vs := vs) (out := out.toArray) hoL
  have pn : (out.map SrtO.iv).Perm (es.toList.map keyOf) := a2.trans pk
  refine wpAny_pure ⟨_, rfl, hQ _ s1.heap.objs.size out.toArray c (out.map SrtO.iv) (fun b u e => ?_) g1 o1 hz hc a1 (lt_of_le_nodup _ a3 (pn.nodup_iff.mpr nd)) (fun k => by rw [pn.mem_iff, ← hm k]) ?_⟩
  · have q := k1 b u e
    have hlt := Heap.lt_size q
    show (sortedHeap (s1.heap.push (seqObj "list" vs.toArray 0)) s1.heap.objs.size vs out.toArray).get? b = some u
    rw [sortedHeap_old (Nat.ne_of_lt hlt) (by rw [size_push']; exact Nat.lt_succ_of_lt hlt)]
    exact Heap.get?_push_of_some _ q
  · rw [pn.length_eq, List.length_map, Array.length_toList]; exact hn
end
section
variable {X : Cx}
/-- set(t) of a tuple of ints -/
def rSetTI (K : PySem.W.Frag) (w : World) : List V → Hp → VK → Prop := fun xs H Q => ∃ (l : Addr) (ns : List Int), xs = [V.ref l] ∧ SqT K H l (ns.map V.int) ∧ ns.length ≤ 1000 ∧
  ∀ (p : Addr) (c : Nat), H p = none → c ≤ ns.length → Q (.ref p) (upd H p (SetO w p (fun j => decide (j ∈ ns)) c))
theorem cr_setTI (hc : X.calm = true) : CallR X (.type "set") (rSetTI X.K X.w) := by
  intro pins s σ H xs us Q I r h
  obtain ⟨l, ns, rfl, hl, hz, q⟩ := h
  rw [Vals.ref1 r]
  obtain ⟨its, rv, pt, _⟩ := I.tuple hl
  have hi : IntsAre its.toArray.toList ns := ints_of_vals rv
  refine call_set_tupI ns (I.ok.hd hc) (show s.heap.IsTuple l its.toArray from pt) hi (by unfold scanBound; omega) fun h' tk c R hcn k => ?_
  exact ⟨.ref s.heap.objs.size, upd H s.heap.objs.size (SetO X.w s.heap.objs.size (fun j => decide (j ∈ ns)) c), I.laid (t' := tk) k (Nat.le_refl _) (setO_new R), rfl, q _ c (I.hok.fresh (Nat.le_refl _)) hcn⟩
/-- sorted(set) -/
def rSortedSetB (w : World) : List V → Hp → VK → Prop := fun vs H Q => ∃ (a : Addr) (S : Int → Bool) (n : Nat), vs = [V.ref a] ∧ H a = some (SetO w a S n) ∧ n ≤ 1000 ∧
  ∀ (ns : List Int) (p : Addr), ns.Pairwise (· < ·) → (∀ k : Int, k ∈ ns ↔ S k = true) → ns.length = n → H p = none → Q (.ref p) (upd H p (.lst (ns.map V.int)))
theorem cr_sortedSetB (hc : X.calm = true) : CallR X (.builtin "sorted") (rSortedSetB X.w) := by
  intro pins s σ H vs us Q I r h
  obtain ⟨a, S, n, rfl, ha, h64, q⟩ := h
  have R := setO_get I ha
  rw [Vals.ref1 r]
  refine sorted_setB R (I.ok.hd hc) h64 fun s' p out c ns k g o hp hg hi hs hm hl => ?_
  have hlen : (ns.map V.int).length ≤ sizeLine := by rw [List.length_map, hl, sizeLine_eq]; omega
  have hn : H p = none := I.hok.fresh hp
  have J : Inv X pins σ (upd H p (.lst (ns.map V.int))) { s with heap := s'.heap, gens := s'.gens, drawn := s'.drawn, toks := s'.toks } :=
    I.call (ch := []) (Un.laid k hp hn) (I.hok.laid k hp ⟨hlen, out.toList, c, vals_of_ints hi, hg⟩) (by rw [g]; exact I.bare) (fun _ z => nomatch z)
  have e : s' = { s with heap := s'.heap, gens := s'.gens, drawn := s'.drawn, toks := s'.toks } := by
    cases s'
    cases s
    cases o
    rfl
  rw [e]
  exact ⟨.ref p, _, J, rfl, q ns p hs hm hl hn⟩
end
end Sx

set_option Elab.async false
set_option linter.all false
namespace Sx
open PySem PySem.Spec
open PyProof.Rows L2
/-- the first place of x -/
def ix (x : Int) : List Int → Nat
  | [] => 0
  | y :: ys => if y = x then 0 else ix x ys + 1
theorem ix_lt {x : Int} : ∀ {ys : List Int}, x ∈ ys → ix x ys < ys.length
  | [], h => absurd h List.not_mem_nil
  | y :: ys, h => by
    unfold ix
    split
    · exact Nat.succ_pos _
    · rcases List.mem_cons.mp h with e | h
      · exact absurd e.symm (by assumption)
      · exact Nat.succ_lt_succ (ix_lt h)
theorem ix_at {x : Int} : ∀ {ys : List Int}, x ∈ ys → ys[ix x ys]? = some x
  | [], h => absurd h List.not_mem_nil
  | y :: ys, h => by
    unfold ix
    split
    · rename_i e; rw [e]; rfl
    · rcases List.mem_cons.mp h with e | h
      · exact absurd e.symm (by assumption)
      · exact ix_at h
theorem ix_first {x : Int} : ∀ {ys : List Int} {m : Nat} {z : Int}, m < ix x ys → ys[m]? = some z → z ≠ x
  | [], m, z, h, _ => absurd h (Nat.not_lt_zero _)
  | y :: ys, m, z, h, hz => by
    unfold ix at h
    split at h
    · exact absurd h (Nat.not_lt_zero _)
    · cases m with
      | zero => cases hz; assumption
      | succ m => exact ix_first (Nat.lt_of_succ_lt_succ h) hz
theorem sorted_g {ys : List Int} (h : ys.Pairwise (· < ·)) {i j : Nat} (hi : i < ys.length) (hj : j < ys.length) : g ys i < g ys j ↔ i < j := by
  have key : ∀ {i j : Nat}, i < j → j < ys.length → g ys i < g ys j := fun {i j} hij hj => by
    have := List.pairwise_iff_getElem.mp h i j (by omega) hj hij
    have hi' : i < ys.length := by omega
    have e1 : g ys i = ys[i] := Option.some.inj ((g_get hi').symm.trans (List.getElem?_eq_getElem hi'))
    have e2 : g ys j = ys[j] := Option.some.inj ((g_get hj).symm.trans (List.getElem?_eq_getElem hj))
    rw [e1, e2]
    exact this
  constructor
  · intro hlt
    rcases Nat.lt_trichotomy i j with c | c | c
    · exact c
    · subst c; omega
    · have := key c hi; omega
  · intro c; exact key c hj
/-- other entries in the same order -/
def other (old new xs : List Int) : List Int := xs.map fun x => g new (ix x old)
theorem other_len (old new xs : List Int) : (other old new xs).length = xs.length := List.length_map ..
theorem other_g {old new xs : List Int} {i : Nat} (h : i < xs.length) : g (other old new xs) i = g new (ix (g xs i) old) := by
  unfold other
  show (xs.map _).getD i 0 = _
  rw [List.getD_eq_getElem?_getD, List.getElem?_map, g_get h]; rfl
theorem other_spans {old new xs : List Int} (ho : old.Pairwise (· < ·)) (hn : new.Pairwise (· < ·)) (hl : new.length = old.length) (hm : ∀ x, x ∈ xs → x ∈ old) : spans (other old new xs) = spans xs := by
  refine spans_order (other_len ..) fun i j hi hj => ?_
  rw [other_len] at hi hj
  rw [other_g hi, other_g hj]
  have mi := hm _ (List.mem_of_getElem? (g_get hi))
  have mj := hm _ (List.mem_of_getElem? (g_get hj))
  have li := ix_lt mi
  have lj := ix_lt mj
  rw [sorted_g hn (by omega) (by omega)]
  have gi : g old (ix (g xs i) old) = g xs i := by
    have := ix_at mi
    rw [g_get li] at this
    exact Option.some.inj this
  have gj : g old (ix (g xs j) old) = g xs j := by
    have := ix_at mj
    rw [g_get lj] at this
    exact Option.some.inj this
  have := sorted_g ho li lj
  rw [gi, gj] at this
  exact this.symm
theorem ro_same {xs ys : List Int} (h : spans ys = spans xs) : ∀ k, ro (k + 1) ys = ro (k + 1) xs
  | 0 => h
  | k + 1 => by show spans (ro (k + 1) ys) = spans (ro (k + 1) xs); rw [ro_same h k]
theorem mt_same {xs ys : List Int} {v : V} (h : spans ys = spans xs) (m : Mt ys xs v) : v = .int 0 ∨ v = .int 1 := by
  cases m with
  | «at» r e l =>
    rcases (show r = 0 ∨ r = 1 ∨ 2 ≤ r by omega) with c | c | c
    · left; rw [c]; rfl
    · right; rw [c]; rfl
    · exact absurd (ro_same h 0) (l 1 (by omega))
  | no l => exact absurd (ro_same h 0) (l 1)
theorem nd_near {xs : List Int} {n e : Nat} (hz : xs.length ≤ 100) (h : Nd xs n) (he : Nd (spans xs) e) : n = e ∨ n = e + 1 := by
  by_cases c : spans xs = xs
  · left
    rw [c] at he
    exact h.uniq he
  · right
    exact h.uniq (he.step c)
theorem nd_same {xs ys : List Int} {n m : Nat} (hz : xs.length ≤ 100) (hl : ys.length = xs.length) (h : spans ys = spans xs) (h1 : Nd ys n) (h2 : Nd xs m) : (n : Int) - m < 2 ∧ (m : Int) - n < 2 := by
  obtain ⟨e, _, he⟩ := nd_any (spans xs) (by rw [spans_len]; exact hz)
  have a := nd_near hz h2 he
  rw [← h] at he
  have b := nd_near (by omega) h1 he
  omega
/-- hinderers are those of the spans -/
theorem spn_same {xs ys : List Int} (h : spans ys = spans xs) {i : Nat} (hi : i < xs.length) : spn ys i = spn xs i := by
  have hl : ys.length = xs.length := by have := congrArg List.length h; rw [spans_len, spans_len] at this; exact this
  rw [← spans_g hi, ← spans_g (xs := ys) (by omega), h]
theorem hind_same {xs ys : List Int} (h : spans ys = spans xs) {i : Nat} (hi : i < xs.length) : hind ys i = hind xs i := by
  have e := spn_same h hi
  unfold spn at e
  unfold hind
  rw [show (bk ys (g ys i) i : Int) = bk xs (g xs i) i by omega]
end Sx
namespace Sx
open PySem PySem.Spec
open PyProof.Rows L2
theorem hind_d (xs : List Int) (i : Nat) : ∃ d, (∀ (K : PySem.W.Frag) (H : Hp), Dp K H (hind xs i) d) ∧ SeqAt.shaped d = true ∧ PyData.eqv d d = true := by
  unfold hind
  split
  · exact ⟨.none, fun K H => .non, by decide, rfl⟩
  · refine ⟨.int ((bk xs (g xs i) i : Int) - 1), fun K H => .int _, by simp [SeqAt.shaped, PyData.canLay0, PyData.depth], ?_⟩
    simp [PyData.eqv]
end Sx

set_option Elab.async false
set_option linter.all false
namespace Sx
/-! ### growth as Fibonacci's numbers -/
theorem ro_lam (xs : List Int) (t : Nat) : Lam (ro (t + 1) xs) := spans_lam (ro t xs)
theorem ro_ge {xs : List Int} {t i : Nat} (h : i < xs.length) : g (ro (t + 1) xs) i ≤ g (ro (t + 2) xs) i := spans_ge (ro_lam xs t) (by rw [ro_len]; exact h)
theorem ro_spn {xs : List Int} {t i : Nat} (h : i < xs.length) : g (ro (t + 1) xs) i = (i : Int) - bk (ro t xs) (g (ro t xs) i) i + 1 := by
  show g (spans (ro t xs)) i = _
  rw [spans_g (by rw [ro_len]; exact h)]; rfl
/-- what a skipped place covers is skipped too -/
theorem bk_under {xs : List Int} {i j : Nat} (hij : j < i) (hb : bk xs (g xs i) i ≤ j) : bk xs (g xs i) i ≤ bk xs (g xs j) j := by
  refine Nat.le_of_not_lt fun c => ?_
  have hlt := bk_lt (xs := xs) (e := g xs i) (f := i) (j := j) hb hij
  have hp : 0 < bk xs (g xs i) i := by omega
  have h1 := bk_ge (xs := xs) (e := g xs i) (f := i) hp
  have h2 := bk_lt (xs := xs) (e := g xs j) (f := j) (j := bk xs (g xs i) i - 1) (by omega) (by omega)
  omega
/-- an entry that grows from round t + 2 to t + 3: some place j in front was its hinderer before, and is skipped now -/
theorem grow_at {xs : List Int} {t i : Nat} (h : i < xs.length) (hg : g (ro (t + 2) xs) i < g (ro (t + 3) xs) i) :
    ∃ j, j < i ∧ g (ro (t + 1) xs) i ≤ g (ro (t + 1) xs) j ∧ g (ro (t + 2) xs) j < g (ro (t + 2) xs) i ∧ g (ro (t + 2) xs) i + g (ro (t + 3) xs) j ≤ g (ro (t + 3) xs) i := by
  have e2 : g (ro (t + 2) xs) i = (i : Int) - bk (ro (t + 1) xs) (g (ro (t + 1) xs) i) i + 1 := ro_spn h
  have e3 : g (ro (t + 3) xs) i = (i : Int) - bk (ro (t + 2) xs) (g (ro (t + 2) xs) i) i + 1 := ro_spn h
  have hb : bk (ro (t + 2) xs) (g (ro (t + 2) xs) i) i < bk (ro (t + 1) xs) (g (ro (t + 1) xs) i) i := by omega
  have hle := bk_le (ro (t + 1) xs) (g (ro (t + 1) xs) i) i
  refine ⟨bk (ro (t + 1) xs) (g (ro (t + 1) xs) i) i - 1, by omega, bk_ge (by omega), ?_, ?_⟩
  · exact bk_lt (f := i) (by omega) (by omega)
  · have hj : bk (ro (t + 1) xs) (g (ro (t + 1) xs) i) i - 1 < xs.length := by omega
    have e4 : g (ro (t + 3) xs) _ = _ := ro_spn (t := t + 2) hj
    have hu := bk_under (xs := ro (t + 2) xs) (i := i) (j := bk (ro (t + 1) xs) (g (ro (t + 1) xs) i) i - 1) (by omega) (by omega)
    omega
theorem grow {xs : List Int} {t i : Nat} (h : i < xs.length) (hg : g (ro (t + 2) xs) i < g (ro (t + 3) xs) i) :
    g (ro (t + 1) xs) i < g (ro (t + 2) xs) i ∧ g (ro (t + 2) xs) i + g (ro (t + 1) xs) i ≤ g (ro (t + 3) xs) i := by
  obtain ⟨j, hj, h1, h2, h3⟩ := grow_at h hg
  have a := ro_ge (xs := xs) (t := t) (i := j) (by omega)
  have b : g (ro (t + 2) xs) j ≤ g (ro (t + 3) xs) j := ro_ge (t := t + 1) (by omega)
  omega
/-- growth in the second round -/
theorem grow2 {xs : List Int} {i : Nat} (h : i < xs.length) (hg : g (ro 1 xs) i < g (ro 2 xs) i) : 2 ≤ g (ro 1 xs) i ∧ g (ro 1 xs) i + 1 ≤ g (ro 2 xs) i := by
  refine ⟨?_, by omega⟩
  have e1 : g (ro 1 xs) i = (i : Int) - bk (ro 0 xs) (g (ro 0 xs) i) i + 1 := ro_spn (t := 0) h
  have e2 : g (ro 2 xs) i = (i : Int) - bk (ro 1 xs) (g (ro 1 xs) i) i + 1 := ro_spn (t := 1) h
  have hb : bk (ro 1 xs) (g (ro 1 xs) i) i < bk (ro 0 xs) (g (ro 0 xs) i) i := by omega
  have hle := bk_le (ro 0 xs) (g (ro 0 xs) i) i
  have hlt := bk_lt (xs := ro 1 xs) (e := g (ro 1 xs) i) (f := i) (j := bk (ro 0 xs) (g (ro 0 xs) i) i - 1) (by omega) (by omega)
  have := (ro_lam xs 0).lo (bk (ro 0 xs) (g (ro 0 xs) i) i - 1) (by rw [ro_len]; omega)
  show 2 ≤ g (ro 1 xs) i
  have : (1 : Int) ≤ g (ro 1 xs) (bk (ro 0 xs) (g (ro 0 xs) i) i - 1) := this
  omega
def fib : Nat → Int
  | 0 => 0
  | 1 => 1
  | n + 2 => fib n + fib (n + 1)
/-- an entry that grows in round t + 2 has F(t + 4) -/
theorem grow_fib {xs : List Int} {i : Nat} (h : i < xs.length) : ∀ t, g (ro (t + 1) xs) i < g (ro (t + 2) xs) i → fib (t + 3) ≤ g (ro (t + 1) xs) i ∧ fib (t + 4) ≤ g (ro (t + 2) xs) i
  | 0, hg => by
    obtain ⟨a, b⟩ := grow2 h hg
    exact ⟨a, by show (3 : Int) ≤ g (ro 2 xs) i; omega⟩
  | t + 1, hg => by
    obtain ⟨a, b⟩ := grow h hg
    obtain ⟨c, d⟩ := grow_fib h t a
    refine ⟨d, ?_⟩
    show fib (t + 3) + fib (t + 4) ≤ g (ro (t + 3) xs) i
    omega
/-- the rounds that are needed, from two on, are at most as many as Fibonacci's numbers allow -/
theorem nd_fib {xs : List Int} {n : Nat} (h : Nd xs (n + 2)) : fib (n + 4) ≤ xs.length := by
  have hne : spans (ro (n + 1) xs) ≠ ro (n + 1) xs := h.least (n + 1) (by omega)
  have : ∃ i, i < xs.length ∧ g (ro (n + 1) xs) i < g (ro (n + 2) xs) i := by
    refine Classical.byContradiction fun c => hne ?_
    refine (g_ext (by rw [spans_len]) fun i hi => ?_).symm
    rw [ro_len] at hi
    have h1 := ro_ge (xs := xs) (t := n) hi
    have h2 : ¬ g (ro (n + 1) xs) i < g (ro (n + 2) xs) i := fun k => c ⟨i, hi, k⟩
    show g (ro (n + 1) xs) i = g (ro (n + 2) xs) i
    omega
  obtain ⟨i, hi, hg⟩ := this
  have h1 := (grow_fib hi n hg).2
  have h2 := (ro_lam xs (n + 1)).hi i (by rw [ro_len]; exact hi)
  have h2 : g (ro (n + 2) xs) i ≤ (i : Int) + 1 := h2
  omega
end Sx
namespace Sx
theorem fib_pos : ∀ t : Nat, 1 ≤ fib (t + 1)
  | 0 => by decide
  | 1 => by decide
  | t + 2 => by
    have h1 := fib_pos t
    have h2 : 1 ≤ fib (t + 2) := fib_pos (t + 1)
    show 1 ≤ fib (t + 1) + fib (t + 2)
    omega
theorem fib_mono {s t : Nat} (h : s ≤ t) : fib (s + 1) ≤ fib (t + 1) := by
  induction t with
  | zero => have : s = 0 := by omega
            rw [this]; exact Int.le_refl _
  | succ t ih =>
    by_cases e : s = t + 1
    · rw [e]; exact Int.le_refl _
    · have := ih (by omega)
      have h2 : fib (t + 1 + 1) = fib t + fib (t + 1) := rfl
      have h3 : 0 ≤ fib t := by
        cases t with
        | zero => decide
        | succ t => have := fib_pos t; omega
      omega
/-- no row needs more rounds than Fibonacci's numbers allow -/
theorem nd_most {xs : List Int} {n t : Nat} (h : Nd xs n) (ht : (xs.length : Int) < fib (t + 3)) : n ≤ max t 1 := by
  by_cases c : n ≤ 1
  · omega
  · obtain ⟨k, rfl⟩ : ∃ k, n = k + 2 := ⟨n - 2, by omega⟩
    have h1 := nd_fib h
    refine Classical.byContradiction fun d => ?_
    have h2 : fib (t + 3) ≤ fib (k + 4) := fib_mono (s := t + 2) (t := k + 3) (by omega)
    omega
theorem ra_le {xs : List Int} {i r n : Nat} (h : RA xs i r) (hn : Nd xs n) : r ≤ n := by
  refine Classical.byContradiction fun c => ?_
  obtain ⟨k, k1, k2⟩ := h.least n (by omega)
  rw [ro_far hn.still k, Nat.min_eq_right k1] at k2
  exact k2 rfl
end Sx

set_option Elab.async false
set_option linter.all false
set_option maxRecDepth 100000
set_option maxHeartbeats 1000000
namespace Sx
open PySem PySem.Spec
open PyProof.Rows L2
/-! ### yield from a list that the generator alone holds -/
section
variable {prog : Program} {w : World} {A : Around} {E : Value → Shared → Prop} {s : Shared}
theorem sp_lst_item {it t : Addr} {i : Nat} {us : Array Value} {x : Value} {Q : Option Value → Shared → Prop} (hit : s.heap.IsListIter it t i) (ht : s.heap.IsList t us) (hx : us[i]? = some x)
    (hQ : ∀ h', h'.IsListIter it t (i + 1) → Heap.SameBut it s.heap h' → Q (some x) { s with heap := h' }) : wpAny (model prog w) A (callSpecial? (.ref it) "__next__") Q E s := by
  obtain ⟨o, ho, hc, hd⟩ := id hit
  obtain ⟨ol, hol, _, nl, hdl⟩ := ht
  refine wpAny_callSpecial?_slot (name := Str.ofString "__next__") hit.typeIs slot_listiter_next (wpAny_call_entry slot_listiter_next hit.typeIs entry_listiter_next ?_ (args_listiter_next _))
  show wpAny _ _ (field (.ref it) 0 >>= _) _ _ s
  refine wpAny_bind (wpAny_field ho hd (x := .ref t) rfl (show wpAny _ _ (if (Value.ref t == Value.none) = true then _ else _) _ _ s from ?_))
  rw [if_neg (show ¬ ((Value.ref t == Value.none) = true) from Bool.false_ne_true)]
  show wpAny _ _ (field (.ref it) 1 >>= _) _ _ s
  refine wpAny_bind (wpAny_field ho hd (x := .int i 0) rfl (show wpAny _ _ (seqItems? (.ref t) >>= _) _ _ s from wpAny_bind (wpAny_seqItems hol hdl ?_)))
  simp only [Int.toNat_natCast, hx]
  refine wpAny_bind (wpAny_setField ho hd (by simp) (wpAny_pure ⟨x, rfl, hQ _ ⟨_, Heap.get?_update_self _ ho (Obj.isFreed_of_fields (Obj.data_mapFields hd _)), (Obj.cls_mapFields ..).trans hc, ?_⟩ (Heap.SameBut.update ..)⟩))
  rw [Obj.data_mapFields hd]; simp [rawInt]
theorem sp_lst_end {it t : Addr} {i : Nat} {us : Array Value} {Q : Option Value → Shared → Prop} (hh : A.handled = none) (hit : s.heap.IsListIter it t i) (ht : s.heap.IsList t us) (hx : us[i]? = none)
    (hE : ∀ e h', StopX e h' → Heap.ExtBut it s.heap h' → E e { s with heap := h' }) : wpAny (model prog w) A (callSpecial? (.ref it) "__next__") Q E s := by
  obtain ⟨o, ho, hc, hd⟩ := id hit
  obtain ⟨ol, hol, _, nl, hdl⟩ := ht
  refine wpAny_callSpecial?_slot (name := Str.ofString "__next__") hit.typeIs slot_listiter_next (wpAny_call_entry slot_listiter_next hit.typeIs entry_listiter_next ?_ (args_listiter_next _))
  show wpAny _ _ (field (.ref it) 0 >>= _) _ _ s
  refine wpAny_bind (wpAny_field ho hd (x := .ref t) rfl (show wpAny _ _ (if (Value.ref t == Value.none) = true then _ else _) _ _ s from ?_))
  rw [if_neg (show ¬ ((Value.ref t == Value.none) = true) from Bool.false_ne_true)]
  show wpAny _ _ (field (.ref it) 1 >>= _) _ _ s
  refine wpAny_bind (wpAny_field ho hd (x := .int i 0) rfl (show wpAny _ _ (seqItems? (.ref t) >>= _) _ _ s from wpAny_bind (wpAny_seqItems hol hdl ?_)))
  simp only [Int.toNat_natCast, hx]
  refine wpAny_bind (wpAny_rule (wpAny_bind (wpAny_setField ho hd (by simp) (show wpAny _ _ (newExc (.type "StopIteration") [] >>= _) _ _ _ from wpAny_bind ?_))))
  simp only [newExc, newTuple]
  refine wpAny_bind (wpAny_newObj_type (wpAny_bind (m := firstArgMember _ _) (wpAny_of_eq (a := Value.none) (by first | rfl | (simp only [firstArgMember]; rfl)) (wpAny_newObj_type ?_ (by size_fits)))) (by size_fits))
  simp only [raiseNew]
  refine wpAny_bind (wpAny_handled ?_)
  first | rw [show A.in1.handled = none from hh] | rw [hh]
  refine wpAny_bind (wpAny_pure (wpAny_throw (hE _ _ ⟨_, _, _, rfl, Heap.get?_push_size _ rfl, rfl, rfl, ?_⟩ (((Heap.SameBut.update ..).extBut.push _).push _))))
  first
    | rfl
    | (rw [Array.getElem?_append_left (by decide)]; rfl)
    | kernel_rfl
end
section
variable {X : Cx} {e : Expr} {te : TE}
def tYfLst (te : TE) : TYf := fun σ H Q => te σ H fun x H1 => ∃ a xs, x = .ref a ∧ H1 a = some (.lst xs) ∧ Q xs H1
theorem close_lst : typeLookup (.type "list_iterator") "close" = pure none := by rw [typeLookup_type, builtinLookup_eq_fast]; kernel_rfl
theorem yf_lst (he : PE X e te) : YfE X e (tYfLst te) := by
  refine ⟨fun pins s σ H Q I h => ?_⟩
  refine thn (he.run pins s σ H _ I h) fun v s1 ⟨x, H1, I1, r1, a, xs, ex, ha, hq⟩ => ?_
  subst ex
  obtain rfl : v = Value.ref a := r1
  obtain ⟨hlen, its, c0, rits, hob⟩ := I1.hok a _ ha
  have ht : s1.heap.IsList a its.toArray := ⟨_, hob, rfl, c0, rfl⟩
  refine ⟨"list", ht.typeIs, by decide, wpAny_pyIter_list ht ?_⟩
  have ksz : ∀ b o, s1.heap.get? b = some o → b ≠ s1.heap.objs.size := fun b o e => Nat.ne_of_lt (Heap.lt_size e)
  have kp : ∀ b o, s1.heap.get? b = some o → (s1.heap.push { cls := .type "list_iterator", data := .fields #[.ref a, .int 0 0] }).get? b = some o := fun b o e => Heap.get?_push_of_some _ e
  refine ⟨s1.heap.objs.size, H1, xs, fun j h => h.IsListIter s1.heap.objs.size a j ∧ h.IsList a its.toArray, rfl, I1.kept (t' := s1.toks) kp, .inr I1.sz, Nat.ne_of_gt I1.lt, fun y c hy => ?_, I1.hok.fresh (Nat.le_refl _), fun p hp => ?_,
    ⟨⟨_, Heap.get?_push_size _ rfl, rfl, rfl⟩, ht.push _⟩, ⟨⟨"list_iterator", fun j h q => ?_, close_lst, by decide⟩, fun j h h' q hk => ?_, fun A' j x s2 Q' E' hA hx q hQ => ?_, fun A' s2 Q' E' hA q hE => ?_⟩, hq⟩
  · obtain ⟨v, o, ho, _⟩ := I1.cell y c hy
    exact ksz c o ho
  · exact ksz p.1 _ (I1.pin p hp).1
  · obtain ⟨⟨o, ho, hc, _⟩, _⟩ := q
    exact ⟨o, ho, hc⟩
  · obtain ⟨⟨o, ho, r⟩, o2, ho2, r2⟩ := q
    exact ⟨⟨o, hk _ o (.inl rfl) ho, r⟩, o2, hk _ o2 (.inr (by rw [ha]; exact fun z => by cases z)) ho2, r2⟩
  · obtain ⟨q1, q2⟩ := q
    obtain ⟨u, hu, ru⟩ := rits.get hx
    have hne : a ≠ s1.heap.objs.size := Nat.ne_of_lt (Heap.lt_size hob)
    exact sp_lst_item q1 q2 (x := u) (by simpa using hu) fun h' q1' hs => hQ u h' s2.toks ru ⟨q1', q2.extBut hs.extBut hne⟩ fun b o hb eb => hs.extBut b o hb eb
  · obtain ⟨q1, q2⟩ := q
    have hnone : its.toArray[xs.length]? = none := by
      have e := rits.length
      have e2 : its[xs.length]? = none := List.getElem?_eq_none_iff.mpr (by omega)
      simpa using e2
    exact sp_lst_end hA q1 q2 hnone fun e h' hS hk => hE e h' s2.toks hS fun b o hb eb => hk b o hb eb
end
/-- no exception comes out -/
theorem passCX {X : Cx} : Passes (CX X.prog X.w) X E0 := fun _ _ _ _ _ _ _ h => by
  obtain ⟨_, _, _, _, _, _, _, _, _, _, _, _, z⟩ := h
  exact z.elim
theorem noStop0 {K : PySem.W.Frag} : NoStop K E0 := fun _ _ _ h => h.elim
/-- a generator def of the module under its name -/
structure GenAt (P : Program) (w : World) (K : PySem.W.Frag) (mg : Str → Option Value) (base : Heap) (k : Nat) (x : Str) (sp : SpG) : Prop where
  ex : ∃ (f : Addr) (fd : FuncData) (ps : List Str), GFn P w K mg base k f fd ps sp ∧ mg x = some (.ref f) ∧ PySem.W.keepIn K (.ref f) = true ∧ Binds K fd ps []
section
variable {P : Program} {w : World} {K : PySem.W.Frag} {mg : Str → Option Value} {base : Heap} {x : Str} {st : Stmt} {N ps : List Str} {f : Addr} {fd : FuncData} {k : Nat} {sp : SpG}
theorem DefAt.gen (D : DefAt K mg x st ps f fd) (S : GScope N ps (defScope st)) (len : ∀ vs H Q E, sp vs H Q E → vs.length = ps.length)
    (hbody : ∀ (cdv : Value) (A : Around) (outer : List Env) (s : Shared) (H : Hp) (vs : List V) (Q : List V → Hp → Prop) (E : XK) (pn : List (Addr × Obj)), Room k (A.deeper (envOfC x (defScope st) s.heap.objs.size f cdv)) → sp vs H Q E →
      ∃ t, GSs (gcxOf P w K mg base N x (defScope st) f cdv A outer s H E pn) (defBody st) t ∧ t { nx := fun ys _ H' => Q ys H', rt := fun ys v H' => v = .non ∧ Q ys H' } [] (start N vs) H) : GenAt P w K mg base (k + 1) x sp := by
  obtain ⟨oc, od, kV, doc, pm, an, cdv, ct, osl, rfl, lk, hcd⟩ := D.fn.ex
  exact ⟨f, _, ps, gfn_of lk hcd S len (hbody cdv), D.at_, D.fn.kp, D.bi⟩
end
/-- list(g(e, ..)) of a generator def that raises nothing -/
theorem pe_listOf {X : Cx} {k j : Nat} {x : Str} {sp : SpG} {p p2 pos pos' : Pos} {e : Expr} {es : List Expr} {t : TA} (c : GenAt X.prog X.w X.K X.mg X.base k x sp) (hr : Room j X.A) (hk : k + 3 ≤ j) (hg : Gl X x) (hgl : Gl X "list") (hml : X.mg "list" = none) (ha : PA X (e :: es) t)
    (hdb : (x == ("__debug__" : Str)) = false := by decide) (he : starEach (e :: es) X.env = (false, eval e X.env) :: starEach es X.env := by rfl) (hpl : (backTo pos' (starEach es X.env)).any (·.1) = false := by rfl)
    (he2 : starEach [.Call (.Name x p) (e :: es) [] pos'] X.env = (false, eval (.Call (.Name x p) (e :: es) [] pos') X.env) :: starEach [] X.env := by rfl) :
    PE X (.Call (.Name "list" p2) [.Call (.Name x p) (e :: es) [] pos'] [] pos) (tListG (tCallG sp [] E0 t)) := by
  obtain ⟨f, fd, ps, F, hm, kp, b⟩ := c.ex
  exact pe_listG (pgen_call F (hr.mono (by omega)) hg hm kp b .nil ha hdb he hpl) passCX noStop0 (hr.mono hk) hgl hml (by decide +kernel) (by decide) (by decide) he2
end Sx

set_option Elab.async false
set_option linter.all false
set_option maxRecDepth 100000
namespace Sx
open PySem PySem.Spec
open PyProof.Rows L2
/-! ### data that can be compared: k deep -/
structure Sh (d : PyData) (k : Nat) : Prop where
  lay : d.canLay0 = true
  deep : d.depth ≤ k
theorem Sh.ok {d : PyData} {k : Nat} (s : Sh d k) (h : k ≤ 64) : SeqAt.shaped d = true := by
  unfold SeqAt.shaped
  rw [s.lay, Bool.true_and, decide_eq_true_eq]
  exact Nat.le_trans s.deep h
theorem Sh.all {k : Nat} : ∀ {ds : List PyData}, (∀ d ∈ ds, Sh d k) → PyData.canLayAll0 ds = true ∧ PyData.depthAll ds ≤ k
  | [], _ => by simp [PyData.canLayAll0, PyData.depthAll]
  | d :: ds, h => by
    obtain ⟨h1, h2⟩ := Sh.all (ds := ds) fun e he => h e (List.mem_cons_of_mem _ he)
    have hd := h d (List.mem_cons_self ..)
    have := hd.deep
    refine ⟨by simp [PyData.canLayAll0, hd.lay, h1], ?_⟩
    simp only [PyData.depthAll]
    omega
theorem Sh.lst {ds : List PyData} {k : Nat} (h : ∀ d ∈ ds, Sh d k) : Sh (.list ds) (k + 1) := by
  obtain ⟨h1, h2⟩ := Sh.all h
  exact ⟨by simp [PyData.canLay0, h1], by simp only [PyData.depth]; omega⟩
theorem Sh.tup {ds : List PyData} {k : Nat} (h : ∀ d ∈ ds, Sh d k) : Sh (.tuple ds) (k + 1) := by
  obtain ⟨h1, h2⟩ := Sh.all h
  exact ⟨by simp [PyData.canLay0, h1], by simp only [PyData.depth]; omega⟩
theorem Sh.int (i : Int) : Sh (.int i) 0 := ⟨by simp [PyData.canLay0], by simp [PyData.depth]⟩
theorem Sh.bool (i : Bool) : Sh (.bool i) 0 := ⟨by simp [PyData.canLay0], by simp [PyData.depth]⟩
theorem Sh.none : Sh .none 0 := ⟨by simp [PyData.canLay0], by simp [PyData.depth]⟩
theorem Sh.row (xs : List Int) : Sh (.tuple (xs.map PyData.int)) 1 := Sh.tup fun d hd => by
  obtain ⟨x, _, rfl⟩ := List.mem_map.mp hd
  exact .int x
theorem Sh.ints (xs : List Int) : Sh (.list (xs.map PyData.int)) 1 := Sh.lst fun d hd => by
  obtain ⟨x, _, rfl⟩ := List.mem_map.mp hd
  exact .int x
theorem dpAll_of {K : PySem.W.Frag} {H : Hp} : ∀ {vs : List V} {ds : List PyData}, vs.length = ds.length → (∀ (j : Nat) (v : V) (d : PyData), vs[j]? = some v → ds[j]? = some d → Dp K H v d) → DpAll K H vs ds
  | [], [], _, _ => .nil
  | [], _ :: _, h, _ => nomatch h
  | _ :: _, [], h, _ => nomatch h
  | v :: vs, d :: ds, h, p => .cons (p 0 v d rfl rfl) (dpAll_of (Nat.succ.inj h) fun j v d h1 h2 => p (j + 1) v d (by simpa using h1) (by simpa using h2))
/-- the rows after 0 to n rounds, as data -/
def rowsD (xs : List Int) (n : Nat) : List PyData := (List.range (n + 1)).map fun j => PyData.tuple ((ro j xs).map PyData.int)
theorem rowsD_len (xs : List Int) (n : Nat) : (rowsD xs n).length = n + 1 := by unfold rowsD; rw [List.length_map, List.length_range]
theorem rowsD_at {xs : List Int} {n j : Nat} (h : j ≤ n) : (rowsD xs n)[j]? = some (.tuple ((ro j xs).map PyData.int)) := by
  unfold rowsD
  rw [List.getElem?_map, List.getElem?_range (by omega)]; rfl
theorem rowsD_sh (xs : List Int) (n : Nat) : Sh (.list (rowsD xs n)) 2 := Sh.lst fun d hd => by
  obtain ⟨j, _, rfl⟩ := List.mem_map.mp hd
  exact Sh.row _
theorem shaped_rows (xs : List Int) (n : Nat) : SeqAt.shaped (.list (rowsD xs n)) = true := (rowsD_sh xs n).ok (by decide)
theorem dp_rows {K : PySem.W.Frag} {H : Hp} {xs : List Int} {n : Nat} {ys : List V} (hl : ys.length = n + 1) (h : ∀ j, j ≤ n → ∃ b, ys[j]? = some (.ref b) ∧ SqT K H b ((ro j xs).map V.int)) : DpAll K H ys (rowsD xs n) := by
  refine dpAll_of (by rw [hl, rowsD_len]) fun j v d h1 h2 => ?_
  have hj : j ≤ n := by
    have := (List.getElem?_eq_some_iff.mp h1).1
    omega
  obtain ⟨b, hb, hS⟩ := h j hj
  rw [h1] at hb
  rw [rowsD_at hj] at h2
  cases hb
  cases h2
  exact .tup hS (dp_ints _)
theorem eqv_same {d : PyData} {k : Nat} (s : Sh d k) : PyData.eqv d d = true := SeqAt.eqv_refl d s.lay
theorem Rw.ro {xs : List Int} (R : Rw xs) : ∀ n, Rw (ro n xs)
  | 0 => R
  | n + 1 => by
    have hl := ro_len xs (n + 1)
    have L := ro_lam xs n
    have h0 := R.lo
    have h1 := R.hi
    refine ⟨by omega, by omega, fun x hx => ?_⟩
    obtain ⟨i, hi, rfl⟩ := List.mem_iff_getElem.mp hx
    have e : g (Sx.ro (n + 1) xs) i = (Sx.ro (n + 1) xs)[i] := Option.some.inj ((g_get hi).symm.trans (List.getElem?_eq_getElem hi))
    rw [← e]
    have := L.lo i hi
    have := L.hi i hi
    omega
theorem nd_100 {xs : List Int} {n t : Nat} (h : Nd xs n) (hz : xs.length ≤ 100) (ht : fib (t + 2) ≤ xs.length) (ht2 : (xs.length : Int) < fib (t + 3)) : n ≤ 100 := by
  have := nd_most h ht2
  refine Classical.byContradiction fun c => ?_
  have h1 : fib 13 ≤ fib (t + 2) := fib_mono (s := 12) (t := t + 1) (by omega)
  have h2 : fib 13 = 233 := by decide
  omega
end Sx
namespace Sx
theorem nd_small {xs : List Int} {n : Nat} (h : Nd xs n) (hz : xs.length ≤ 100) : n ≤ 10 := by
  refine Classical.byContradiction fun c => ?_
  obtain ⟨k, rfl⟩ : ∃ k, n = k + 2 := ⟨n - 2, by omega⟩
  have h1 := nd_fib h
  have h2 : fib 13 ≤ fib (k + 4) := fib_mono (s := 12) (t := k + 3) (by omega)
  have h3 : fib 13 = 233 := by decide
  omega
end Sx

set_option Elab.async false
set_option linter.all false
namespace Sx
/-! ### rounds with weights -/
def tot (ws : List Int) (k : Nat) : Int := (ws.take k).sum
theorem tot_zero (ws : List Int) : tot ws 0 = 0 := by unfold tot; rw [List.take_zero]; rfl
theorem tot_succ {ws : List Int} {k : Nat} (h : k < ws.length) : tot ws (k + 1) = tot ws k + g ws k := by
  unfold tot
  rw [List.take_add_one, g_get h, List.sum_append]
  show _ + (g ws k + 0) = _
  omega
/-- weights for n places -/
structure Wt (ws : List Int) (n : Nat) : Prop where
  len : ws.length = n
  lo : ∀ x ∈ ws, 1 ≤ x
  hi : ∀ x ∈ ws, x ≤ 10 ^ 28
theorem Wt.at {ws : List Int} {n i : Nat} (h : Wt ws n) (hi : i < n) : 1 ≤ g ws i ∧ g ws i ≤ 10 ^ 28 := by
  have hm := List.mem_of_getElem? (g_get (xs := ws) (i := i) (by rw [h.len]; exact hi))
  exact ⟨h.lo _ hm, h.hi _ hm⟩
theorem tot_lt {ws : List Int} {n : Nat} (h : Wt ws n) {i j : Nat} (hij : i < j) (hj : j ≤ n) : tot ws i < tot ws j := by
  induction j with
  | zero => omega
  | succ j ih =>
    have e := tot_succ (ws := ws) (k := j) (by rw [h.len]; omega)
    have p := h.at (i := j) (by omega)
    by_cases c : i = j
    · subst c; omega
    · have := ih (by omega) (by omega); omega
theorem tot_le {ws : List Int} {n : Nat} (h : Wt ws n) {i j : Nat} (hij : i ≤ j) (hj : j ≤ n) : tot ws i ≤ tot ws j := by
  by_cases c : i = j
  · rw [c]; exact Int.le_refl _
  · exact Int.le_of_lt (tot_lt h (by omega) hj)
/-- the weights from behind the hinderer up to the place -/
def wv (ws xs : List Int) (i : Nat) : Int := tot ws (i + 1) - tot ws (bk xs (g xs i) i)
def wsp (ws xs : List Int) : List Int := (List.range xs.length).map (wv ws xs)
theorem wsp_len (ws xs : List Int) : (wsp ws xs).length = xs.length := by unfold wsp; rw [List.length_map, List.length_range]
theorem wsp_g {ws xs : List Int} {i : Nat} (h : i < xs.length) : g (wsp ws xs) i = wv ws xs i := by
  unfold wsp
  show ((List.range xs.length).map (wv ws xs)).getD i 0 = _
  rw [List.getD_eq_getElem?_getD, List.getElem?_map, List.getElem?_range h]; rfl
def wro (ws : List Int) : Nat → List Int → List Int
  | 0, xs => xs
  | n + 1, xs => wsp ws (wro ws n xs)
theorem wro_len (ws xs : List Int) : ∀ n, (wro ws n xs).length = xs.length
  | 0 => rfl
  | n + 1 => by show (wsp ws (wro ws n xs)).length = _; rw [wsp_len, wro_len ws xs n]
theorem wro_still {ws xs : List Int} {n : Nat} (h : wsp ws (wro ws n xs) = wro ws n xs) : ∀ k, wro ws (n + k) xs = wro ws n xs
  | 0 => rfl
  | k + 1 => by show wsp ws (wro ws (n + k) xs) = _; rw [wro_still h k, h]
theorem wro_far {ws xs : List Int} {n : Nat} (h : wsp ws (wro ws n xs) = wro ws n xs) (m : Nat) : wro ws m xs = wro ws (min m n) xs := by
  by_cases c : m ≤ n
  · rw [Nat.min_eq_left c]
  · rw [Nat.min_eq_right (by omega)]
    obtain ⟨k, rfl⟩ : ∃ k, m = n + k := ⟨m - n, by omega⟩
    exact wro_still h k
structure WNd (ws xs : List Int) (n : Nat) : Prop where
  still : wsp ws (wro ws n xs) = wro ws n xs
  least : ∀ k, k < n → wsp ws (wro ws k xs) ≠ wro ws k xs
theorem WNd.uniq {ws xs : List Int} {n m : Nat} (h1 : WNd ws xs n) (h2 : WNd ws xs m) : n = m := by
  rcases Nat.lt_trichotomy n m with h | h | h
  · exact absurd h1.still (h2.least n h)
  · exact h
  · exact absurd h2.still (h1.least m h)
/-- how far the place looks back in round t + 1 -/
def wb (ws xs : List Int) (t i : Nat) : Nat := bk (wro ws t xs) (g (wro ws t xs) i) i
theorem wb_le (ws xs : List Int) (t i : Nat) : wb ws xs t i ≤ i := bk_le _ _ _
theorem wro_g {ws xs : List Int} {t i : Nat} (h : i < xs.length) : g (wro ws (t + 1) xs) i = tot ws (i + 1) - tot ws (wb ws xs t i) := by
  show g (wsp ws (wro ws t xs)) i = _
  rw [wsp_g (by rw [wro_len]; exact h)]; rfl
/-- from the first round on no place looks back less -/
theorem wb_mono {ws xs : List Int} {t i : Nat} (W : Wt ws xs.length) (h : i < xs.length) : wb ws xs (t + 1) i ≤ wb ws xs t i := by
  refine Nat.le_of_not_lt fun c => ?_
  have hle := wb_le ws xs (t + 1) i
  have hp : 0 < bk (wro ws (t + 1) xs) (g (wro ws (t + 1) xs) i) i := by show 0 < wb ws xs (t + 1) i; omega
  have h1 := bk_ge hp
  have hj : wb ws xs (t + 1) i - 1 < i := by omega
  have hu : wb ws xs t i ≤ wb ws xs t (wb ws xs (t + 1) i - 1) := bk_under (xs := wro ws t xs) hj (by show wb ws xs t i ≤ _; omega)
  have e1 := wro_g (ws := ws) (xs := xs) (t := t) h
  have e2 := wro_g (ws := ws) (xs := xs) (t := t) (i := wb ws xs (t + 1) i - 1) (by omega)
  have h1 : g (wro ws (t + 1) xs) i ≤ g (wro ws (t + 1) xs) (wb ws xs (t + 1) i - 1) := h1
  have l1 := tot_lt W (i := wb ws xs (t + 1) i - 1 + 1) (j := i + 1) (by omega) (by omega)
  have l2 := tot_le W hu (by have := wb_le ws xs t (wb ws xs (t + 1) i - 1); omega)
  omega
theorem wro_ge {ws xs : List Int} {t i : Nat} (W : Wt ws xs.length) (h : i < xs.length) : g (wro ws (t + 1) xs) i ≤ g (wro ws (t + 2) xs) i := by
  rw [wro_g h, wro_g h]
  have := tot_le W (wb_mono (t := t) W h) (by have := wb_le ws xs t i; omega)
  omega
theorem wb_lt {ws xs : List Int} {t i : Nat} (W : Wt ws xs.length) (h : i < xs.length) (hg : g (wro ws (t + 1) xs) i < g (wro ws (t + 2) xs) i) : wb ws xs (t + 1) i < wb ws xs t i := by
  have := wb_mono (t := t) W h
  rcases Nat.lt_or_eq_of_le this with c | c
  · exact c
  · rw [wro_g h, wro_g h, c] at hg; omega
/-- a place that grows in round t + 2 has grown in each round from the second one on -/
theorem wgrow {ws xs : List Int} {i : Nat} (W : Wt ws xs.length) (h : i < xs.length) : ∀ t, g (wro ws (t + 1) xs) i < g (wro ws (t + 2) xs) i → wb ws xs (t + 1) i + (t + 1) ≤ i
  | 0, hg => by
    have := wb_lt W h hg
    have := wb_le ws xs 0 i
    omega
  | t + 1, hg => by
    have hlt : wb ws xs (t + 2) i < wb ws xs (t + 1) i := wb_lt (t := t + 1) W h hg
    have hb := wb_le ws xs (t + 1) i
    have h1 : g (wro ws (t + 1) xs) i ≤ g (wro ws (t + 1) xs) (wb ws xs (t + 1) i - 1) := bk_ge (xs := wro ws (t + 1) xs) (by show 0 < wb ws xs (t + 1) i; omega)
    have h2 : g (wro ws (t + 2) xs) (wb ws xs (t + 1) i - 1) < g (wro ws (t + 2) xs) i := bk_lt (xs := wro ws (t + 2) xs) (f := i) (by show wb ws xs (t + 2) i ≤ _; omega) (by omega)
    have h3 := wro_ge (t := t) (i := wb ws xs (t + 1) i - 1) W (by omega)
    have := wgrow W h t (by omega)
    show wb ws xs (t + 2) i + (t + 2) ≤ i
    omega
theorem wstill {ws xs : List Int} (W : Wt ws xs.length) (h0 : 1 ≤ xs.length) : wsp ws (wro ws xs.length xs) = wro ws xs.length xs := by
  obtain ⟨m, hm⟩ : ∃ m, xs.length = m + 1 := ⟨xs.length - 1, by omega⟩
  refine g_ext (by rw [wsp_len]) fun i hi => ?_
  rw [wsp_len, wro_len] at hi
  rw [hm]
  show g (wro ws (m + 2) xs) i = g (wro ws (m + 1) xs) i
  have h1 := wro_ge (t := m) W hi
  refine Classical.byContradiction fun c => ?_
  have := wgrow W hi m (by omega)
  omega
theorem wnd_any {ws xs : List Int} (W : Wt ws xs.length) (h0 : 1 ≤ xs.length) : ∃ n, n ≤ xs.length ∧ WNd ws xs n := by
  have key : ∀ m, wsp ws (wro ws m xs) = wro ws m xs → ∃ n, n ≤ m ∧ WNd ws xs n := by
    intro m
    induction m with
    | zero => intro h; exact ⟨0, Nat.le_refl 0, h, fun k hk => absurd hk (Nat.not_lt_zero _)⟩
    | succ m ih =>
      intro h
      by_cases c : ∃ k, k ≤ m ∧ wsp ws (wro ws k xs) = wro ws k xs
      · obtain ⟨k, hk, e⟩ := c
        have e2 : wsp ws (wro ws m xs) = wro ws m xs := by
          obtain ⟨d, rfl⟩ : ∃ d, m = k + d := ⟨m - k, by omega⟩
          rw [wro_still e d, e]
        obtain ⟨n, hn, H⟩ := ih e2
        exact ⟨n, by omega, H⟩
      · exact ⟨m + 1, Nat.le_refl _, h, fun k hk e => c ⟨k, by omega, e⟩⟩
  exact key _ (wstill W h0)
/-! #### equal weights -/
theorem bk_scale {xs ys : List Int} {c e : Int} (hc : 1 ≤ c) : ∀ {f : Nat}, (∀ j, j < f → g ys j = c * g xs j) → bk ys (c * e) f = bk xs e f := fun {f} h =>
  bk_congr fun j hj => by
    rw [h j hj]
    exact ⟨fun k => Int.lt_of_mul_lt_mul_left k (by omega), fun k => Int.mul_lt_mul_of_pos_left k (by omega)⟩
theorem same_tot {c : Int} {n : Nat} : ∀ k, k ≤ n → tot (List.replicate n c) k = c * k
  | 0, _ => by rw [tot_zero]; simp
  | k + 1, h => by
    have e := tot_succ (ws := List.replicate n c) (k := k) (by rw [List.length_replicate]; omega)
    have eg : g (List.replicate n c) k = c := by
      unfold g
      rw [List.getD_eq_getElem?_getD, List.getElem?_replicate, if_pos (by omega)]; rfl
    rw [e, same_tot k (by omega), eg]
    rw [show ((k + 1 : Nat) : Int) = (k : Int) + 1 by omega, Int.mul_add]
    omega
theorem g_scale {xs : List Int} {c : Int} {i : Nat} (h : i < xs.length) : g (xs.map (c * ·)) i = c * g xs i := by
  show (xs.map (c * ·)).getD i 0 = _
  rw [List.getD_eq_getElem?_getD, List.getElem?_map, g_get h]; rfl
theorem wsp_same {xs : List Int} {c : Int} : wsp (List.replicate xs.length c) xs = (spans xs).map (c * ·) := by
  refine g_ext (by rw [wsp_len, List.length_map, spans_len]) fun i hi => ?_
  rw [wsp_len] at hi
  rw [wsp_g hi, g_scale (by rw [spans_len]; exact hi), spans_g hi]
  unfold wv spn
  have hb := bk_le xs (g xs i) i
  rw [same_tot _ (by omega), same_tot _ (by omega), ← Int.mul_sub]
  congr 1
  omega
theorem spans_scale {xs : List Int} {c : Int} (hc : 1 ≤ c) : spans (xs.map (c * ·)) = spans xs := by
  refine spans_order (List.length_map ..) fun i j hi hj => ?_
  rw [List.length_map] at hi hj
  rw [g_scale hi, g_scale hj]
  exact ⟨fun k => Int.lt_of_mul_lt_mul_left k (by omega), fun k => Int.mul_lt_mul_of_pos_left k (by omega)⟩
theorem wro_same {xs : List Int} {c : Int} (hc : 1 ≤ c) : ∀ t, wro (List.replicate xs.length c) (t + 1) xs = (ro (t + 1) xs).map (c * ·)
  | 0 => wsp_same
  | t + 1 => by
    show wsp (List.replicate xs.length c) (wro (List.replicate xs.length c) (t + 1) xs) = _
    rw [wro_same hc t]
    have e := wsp_same (xs := (ro (t + 1) xs).map (c * ·)) (c := c)
    rw [List.length_map, ro_len] at e
    rw [e, spans_scale hc]; rfl
theorem map_one (xs : List Int) : xs.map ((1 : Int) * ·) = xs := by
  conv => rhs; rw [← List.map_id xs]
  exact List.map_congr_left fun x _ => Int.one_mul x
theorem wro_ones {xs : List Int} : ∀ t, wro (List.replicate xs.length 1) t xs = ro t xs
  | 0 => rfl
  | t + 1 => by rw [wro_same (by decide) t, map_one]
theorem wnd_ones {xs : List Int} {n m : Nat} (h1 : WNd (List.replicate xs.length 1) xs n) (h2 : Nd xs m) : n = m := by
  refine h1.uniq ⟨?_, fun k hk => ?_⟩
  · show wro (List.replicate xs.length 1) (m + 1) xs = _
    rw [wro_ones, wro_ones]; exact h2.still
  · show wro (List.replicate xs.length 1) (k + 1) xs ≠ _
    rw [wro_ones, wro_ones]; exact h2.least k hk
theorem wnd_calm {xs : List Int} {c : Int} {n m : Nat} (hc : 1 ≤ c) (h : Nd xs m) (h1 : WNd (List.replicate xs.length c) ((ro m xs).map (c * ·)) n) : n = 0 := by
  refine h1.uniq ⟨?_, fun k hk => absurd hk (Nat.not_lt_zero _)⟩
  show wsp (List.replicate xs.length c) ((ro m xs).map (c * ·)) = _
  have e := wsp_same (xs := (ro m xs).map (c * ·)) (c := c)
  rw [List.length_map, ro_len] at e
  rw [e, spans_scale hc, h.still]; rfl
/-! #### the front part -/
theorem tot_take {ws : List Int} {m k : Nat} (h : k ≤ m) : tot (ws.take m) k = tot ws k := by
  unfold tot
  rw [List.take_take, Nat.min_eq_left h]
theorem wsp_take (ws xs : List Int) (m : Nat) : wsp (ws.take m) (xs.take m) = (wsp ws xs).take m := by
  refine g_ext (by rw [wsp_len, List.length_take, List.length_take, wsp_len]) fun i hi => ?_
  rw [wsp_len, List.length_take] at hi
  rw [wsp_g (by rw [List.length_take]; exact hi), g_take (by omega), wsp_g (by omega)]
  unfold wv
  have hb := bk_le (xs.take m) (g (xs.take m) i) i
  rw [tot_take (by omega), tot_take (by omega), g_take (by omega), bk_congr (ys := xs) (e' := g xs i) fun j hj => by rw [g_take (by omega)]]
theorem wro_take (ws xs : List Int) (m : Nat) : ∀ t, wro (ws.take m) t (xs.take m) = (wro ws t xs).take m
  | 0 => rfl
  | t + 1 => by show wsp (ws.take m) (wro (ws.take m) t (xs.take m)) = _; rw [wro_take ws xs m t, wsp_take]; rfl
theorem Wt.take {ws : List Int} {n k : Nat} (h : Wt ws n) (hk : k ≤ n) : Wt (ws.take k) k :=
  ⟨by rw [List.length_take, h.len, Nat.min_eq_left hk], fun x hx => h.lo x (List.mem_of_mem_take hx), fun x hx => h.hi x (List.mem_of_mem_take hx)⟩
theorem Wt.same {c : Int} {n : Nat} (h1 : 1 ≤ c) (h2 : c ≤ 10 ^ 28) : Wt (List.replicate n c) n :=
  ⟨List.length_replicate, fun x hx => by rw [(List.mem_replicate.mp hx).2]; exact h1, fun x hx => by rw [(List.mem_replicate.mp hx).2]; exact h2⟩
theorem sum_cut {ws : List Int} {b e : Nat} (h : b ≤ e) : ((ws.drop b).take (e - b)).sum = tot ws e - tot ws b := by
  have : (ws.take e).sum = (ws.take b).sum + ((ws.drop b).take (e - b)).sum := by
    rw [← List.sum_append]
    congr 1
    have : ws.take e = ws.take (b + (e - b)) := by rw [show b + (e - b) = e by omega]
    rw [this, List.take_add]
  unfold tot
  omega
end Sx
namespace Sx
open PySem PySem.Spec
open PyProof.Rows L2
/-- a comprehension over enumerate of a tuple -/
theorem lc_enumT {K : PySem.W.Frag} {a : Addr} {xs : List V} {g : TG} {tt : TT} {te : TE} {vs : List Nat} {σ : L2.St} {H1 : Hp} {D : Addr} {Qd : Hp → Prop}
    (Pv : Nat → Hp → Prop) (h0 : Pv 0 (upd H1 D (.lst [])))
    (hl : ∀ i H, Pv i H → SqT K H a xs)
    (hs : ∀ i x T H, xs[i]? = some x → Pv i H → H T = none →
      g (.ref T) (wipe σ vs) (upd H T (.tup [.int (i : Nat), x])) fun σ2 H2 =>
        wipe σ2 vs = wipe σ vs ∧ tt σ2 H2 fun b H3 =>
          if b = true then te σ2 H3 fun y H4 =>
            ∃ acc, H4 D = some (.lst acc) ∧ acc.length < sizeLine ∧ Pv (i + 1) (upd H4 D (.lst (acc ++ [y])))
          else Pv (i + 1) H3)
    (hd : ∀ H, Pv xs.length H → Qd H) :
    ∃ W : Nat → Nat → Hp → Prop, (∃ m, W 0 m (upd H1 D (.lst []))) ∧ ∀ i m H, W i m H →
      ((ItE K a).stop i H ∧ Qd H) ∨
      ((ItE K a).go i H ∧ ∃ Nx : Hp → Prop, (∀ H', Nx H' → ∃ m', m' < m ∧ W (i + 1) m' H') ∧ ∀ x H', (ItE K a).yld i H x H' →
        g x (wipe σ vs) H' fun σ2 H2 =>
          wipe σ2 vs = wipe σ vs ∧ tt σ2 H2 fun b H3 =>
            if b = true then te σ2 H3 fun y H4 =>
              ∃ acc, H4 D = some (.lst acc) ∧ acc.length < sizeLine ∧ Nx (upd H4 D (.lst (acc ++ [y])))
            else Nx H3) := by
  refine ⟨fun i m H => i + m = xs.length ∧ Pv i H, ⟨xs.length, by omega, h0⟩, fun i m H ⟨e, p⟩ => ?_⟩
  have q := hl i H p
  by_cases hi : i < xs.length
  · refine .inr ⟨⟨xs, xs[i], q, List.getElem?_eq_getElem hi⟩, Pv (i + 1), fun H' p' => ⟨m - 1, by omega, by omega, p'⟩, ?_⟩
    rintro x H' ⟨T, y, rfl, hT, rfl, hy⟩
    exact hs i y T H (hy xs q) p hT
  · have : i = xs.length := by omega
    subst this
    exact .inl ⟨⟨xs, q, Nat.le_refl _⟩, hd H p⟩
/-- p holds the rows f 0 to f n -/
def Seqs (K : PySem.W.Frag) (H : Hp) (p : Addr) (f : Nat → List Int) (n : Nat) : Prop :=
  ∃ vs : List V, H p = some (.lst vs) ∧ vs.length = n + 1 ∧ ∀ j, j ≤ n → ∃ b, vs[j]? = some (.ref b) ∧ SqT K H b ((f j).map V.int)
theorem Seqs.ex {K : PySem.W.Frag} {H H' : Hp} {p : Addr} {f : Nat → List Int} {n : Nat} (h : Seqs K H p f n) (X : Ex H H') : Seqs K H' p f n := by
  obtain ⟨vs, h1, h2, h3⟩ := h
  refine ⟨vs, X _ _ h1, h2, fun j hj => ?_⟩
  obtain ⟨b, hb, hS⟩ := h3 j hj
  exact ⟨b, hb, Evl.ex_t X hS⟩
/-- the totals of the weights -/
def tots (ws : List Int) (n : Nat) : List Int := (List.range (n + 1)).map (tot ws)
theorem tots_len (ws : List Int) (n : Nat) : (tots ws n).length = n + 1 := by unfold tots; rw [List.length_map, List.length_range]
theorem tots_at {ws : List Int} {n k : Nat} (h : k ≤ n) : atI ((tots ws n).map V.int) ((k : Nat) : Int) = some (.int (tot ws k)) := by
  rw [atN (by rw [tots_len]; omega)]
  unfold tots
  show some (V.int (((List.range (n + 1)).map (tot ws)).getD k 0)) = _
  rw [List.getD_eq_getElem?_getD, List.getElem?_map, List.getElem?_range (by omega)]; rfl
theorem tots_succ (ws : List Int) (n : Nat) : tots ws (n + 1) = tots ws n ++ [tot ws (n + 1)] := by
  unfold tots
  rw [List.range_succ, List.map_append]; rfl
end Sx

set_option Elab.async false
set_option linter.all false
set_option maxRecDepth 100000
set_option maxHeartbeats 4000000
namespace Sx
open PySem PySem.Spec PyProof.Rows L2
/-! ### a tuple once -/
theorem tup_once (l : Addr) (us : Array Value) (n : Nat) (dd : Option Addr) (sl : Array (Option Value)) (u : Tok) :
    Meets (Builtin.«tuple.__mul__» ⟨[.ref l, .int 1 u], []⟩) (fun _ R s => s.heap.get? l = some { cls := .type "tuple", dict := dd, data := .seq us n, slots := sl } ∧
      R (.ok (.ret (Value.ref l))) s) :=
  .of_wp fun prog w A R s h => by
    obtain ⟨hp, gg, d, tk, os⟩ := s
    obtain ⟨hl, h⟩ := h
    have f1 := AutoSeq1.idx_int
    have c0 : (decide ((1 : Int) < -(2 ^ 63)) || decide ((1 : Int) ≥ 2 ^ 63)) = false := by decide
    have c1 : (us.isEmpty || (1 : Int) == 1) = true := by rw [show ((1 : Int) == 1) = true from rfl, Bool.or_true]
    wp_walk using AutoSeq1.wpAny_loadPart' hl
    repeat (first
      | (refine wpAny_ite_false (decide_eq_false (by rw [c0]; exact Bool.false_ne_true)) ?_; wp_walk using AutoSeq1.wpAny_loadPart' hl)
      | (refine wpAny_ite_true (decide_eq_true c1) ?_; wp_walk using AutoSeq1.wpAny_loadPart' hl))
    exact ⟨_, rfl, h⟩
section
variable {X : Cx}
theorem rep_one {α : Type} (xs : List α) : (List.replicate 1 xs).flatten = xs := by simp
def rRepA (K : PySem.W.Frag) : R2 := fun x y H Q => ∃ l k xs, x = V.ref l ∧ y = V.int k ∧ SqT K H l xs ∧ xs ≠ [] ∧ 1 ≤ k ∧ k ≤ 1000 ∧ xs.length ≤ 1000 ∧
  ∀ c H', Ex H H' → SqT K H' c (List.replicate k.toNat xs).flatten → Q (.ref c) H'
theorem op_repA : OpR X (binaryOp .Mult) (rRepA X.K) := by
  intro pins s σ H x y v u Q I rx ry h
  obtain ⟨l, k, xs, hx, hy, hT, hne, h1, h2, hz, q⟩ := h
  by_cases hk : 2 ≤ k
  · exact op_repT pins s σ H x y v u Q I rx ry ⟨l, k, xs, hx, hy, hT, hne, hk, h2, hz, fun p hp => q p _ (Evl.Ex.new hp) (SqT.of upd_same)⟩
  obtain rfl : k = 1 := by omega
  subst hx hy
  cases rx
  obtain ⟨t, rfl⟩ := ry
  obtain ⟨its, r, ⟨⟨cls, dd, data, sl⟩, ho, hc, n, hd⟩, hs⟩ := I.tuple hT
  simp only at hc hd
  subst hc hd
  refine wpAny_binaryOp_repeat_ref (T := "tuple") (U := "int") (by decide) ⟨_, ho, rfl⟩ (fun s' => typeIs_int s' 1 t) noFill_tuple_mul F.fills_int_mul F.slot_int_rmul repeat_tuple F.slot_int_index.lookup
    (call_meets F.slot_int_rmul (typeIs_int s 1 t) F.entry_int_rmul (F.args_int_rmul_2 _ _) (int_rmul_tuple 1 t l its.toArray n dd sl)
      ⟨ho, rfl, ⟨_, ho, rfl⟩, call_meets F.slot_tuple_mul ⟨_, ho, rfl⟩ F.entry_tuple_mul (F.args_tuple_mul_2 _ _) (tup_once l its.toArray n dd sl t) ⟨ho, ?_⟩⟩)
  refine ⟨.ref l, H, I, rfl, q l H (Evl.Ex.refl H) ?_⟩
  rw [show (1 : Int).toNat = 1 from rfl, rep_one]
  exact hT
end
theorem rep_flat {n : Nat} {c : Int} : (List.replicate n [V.int c]).flatten = (List.replicate n c).map V.int := by
  induction n with
  | zero => rfl
  | succ n ih => rw [List.replicate_succ, List.replicate_succ, List.flatten_cons, ih]; rfl
end Sx

set_option Elab.async false
set_option linter.all false
namespace Sx
open PySem PySem.Spec
open PyProof.Rows L2 Sx
/-! ### pairs in the heap -/
def pV (p : Int × Nat) : List L2.V := [.int p.1, .int (p.2 : Int)]
def Prs (K : PySem.W.Frag) (H : Hp) (vs : List L2.V) (rs : Rn) : Prop := vs.length = rs.length ∧ ∀ (i : Nat) (p : Int × Nat), rs[i]? = some p → ∃ r, vs[i]? = some (.ref r) ∧ SqT K H r (pV p)
def PrT (K : PySem.W.Frag) (H : Hp) (a : Addr) (rs : Rn) : Prop := ∃ vs : List L2.V, SqT K H a vs ∧ Prs K H vs rs
section
variable {K : PySem.W.Frag} {H H' : Hp} {a p r : Addr} {vs : List L2.V} {rs : Rn}
theorem Prs.ex (h : Prs K H vs rs) (X : Ex H H') : Prs K H' vs rs := ⟨h.1, fun i p hp => by
  obtain ⟨r, hr, hS⟩ := h.2 i p hp
  exact ⟨r, hr, Evl.ex_t X hS⟩⟩
theorem Prs.exB {t : Addr} {ys : List L2.V} (h : Prs K H vs rs) (E : ExB t H H') (ht : H t = some (.lst ys)) : Prs K H' vs rs := ⟨h.1, fun i p hp => by
  obtain ⟨r, hr, hS⟩ := h.2 i p hp
  exact ⟨r, hr, E.tup ht hS⟩⟩
theorem Prs.mut {ys zs : List L2.V} (h : Prs K H vs rs) (ht : H p = some (.lst ys)) : Prs K (upd H p (.lst zs)) vs rs := ⟨h.1, fun i q hq => by
  obtain ⟨r, hr, hS⟩ := h.2 i q hq
  exact ⟨r, hr, sqT_mut hS ht⟩⟩
theorem Prs.nil : Prs K H [] [] := ⟨rfl, fun i p hp => nomatch hp⟩
theorem Prs.snoc {q : Int × Nat} (h : Prs K H vs rs) (hr : SqT K H r (pV q)) : Prs K H (vs ++ [.ref r]) (rs ++ [q]) := by
  refine ⟨by rw [List.length_append, List.length_append, h.1]; rfl, fun i p hp => ?_⟩
  by_cases c : i < rs.length
  · rw [List.getElem?_append_left c] at hp
    obtain ⟨b, hb, hS⟩ := h.2 i p hp
    exact ⟨b, by rw [List.getElem?_append_left (by rw [h.1]; exact c)]; exact hb, hS⟩
  · rw [List.getElem?_append_right (by omega)] at hp
    rw [List.getElem?_append_right (by rw [h.1]; omega), h.1]
    cases e : i - rs.length with
    | zero => rw [e] at hp; cases hp; exact ⟨r, rfl, hr⟩
    | succ k => rw [e] at hp; cases hp
theorem Prs.init {q : Int × Nat} (h : Prs K H vs (rs ++ [q])) : Prs K H vs.dropLast rs ∧ ∃ r, vs[vs.length - 1]? = some (.ref r) ∧ SqT K H r (pV q) := by
  have hl := h.1
  rw [List.length_append] at hl
  simp only [List.length_cons, List.length_nil] at hl
  refine ⟨⟨by rw [List.length_dropLast]; omega, fun i p hp => ?_⟩, ?_⟩
  · have hi : i < rs.length := (List.getElem?_eq_some_iff.mp hp).1
    obtain ⟨b, hb, hS⟩ := h.2 i p (by rw [List.getElem?_append_left hi]; exact hp)
    refine ⟨b, ?_, hS⟩
    rw [List.getElem?_dropLast, if_pos (by omega)]
    exact hb
  · obtain ⟨b, hb, hS⟩ := h.2 rs.length q (by rw [List.getElem?_append_right (Nat.le_refl _), Nat.sub_self]; rfl)
    exact ⟨b, by rw [show vs.length - 1 = rs.length by omega]; exact hb, hS⟩
theorem Prs.last {q : Int × Nat} (h : Prs K H vs (rs ++ [q])) : ∃ r, atI vs (-1) = some (.ref r) ∧ SqT K H r (pV q) := by
  have hl := h.1
  rw [List.length_append] at hl
  simp only [List.length_cons, List.length_nil] at hl
  obtain ⟨r, hr, hS⟩ := h.init.2
  exact ⟨r, by rw [atI_last (n := rs.length) (by omega)]; rw [show vs.length - 1 = rs.length by omega] at hr; exact hr, hS⟩
theorem Prs.setlast {q q' : Int × Nat} (h : Prs K H vs (rs ++ [q])) (hr : SqT K H r (pV q')) : Prs K H (vs.set rs.length (.ref r)) (rs ++ [q']) := by
  have hl := h.1
  rw [List.length_append] at hl
  simp only [List.length_cons, List.length_nil] at hl
  refine ⟨by rw [List.length_set, List.length_append, hl]; rfl, fun i p hp => ?_⟩
  by_cases c : i < rs.length
  · obtain ⟨b, hb, hS⟩ := h.2 i p (by rw [List.getElem?_append_left c] at hp ⊢; exact hp)
    exact ⟨b, by rw [List.getElem?_set_ne (by omega)]; exact hb, hS⟩
  · have hi : i = rs.length := by
      have := (List.getElem?_eq_some_iff.mp hp).1
      rw [List.length_append] at this
      simp only [List.length_cons, List.length_nil] at this
      omega
    subst hi
    rw [List.getElem?_append_right (Nat.le_refl _), Nat.sub_self] at hp
    cases hp
    exact ⟨r, by rw [List.getElem?_set_self (by omega)], hr⟩
theorem Prs.at {i : Nat} {q : Int × Nat} (h : Prs K H vs rs) (hi : rs[i]? = some q) : ∃ r, atI vs (i : Int) = some (.ref r) ∧ SqT K H r (pV q) := by
  obtain ⟨r, hr, hS⟩ := h.2 i q hi
  exact ⟨r, atI_nat hr, hS⟩
theorem Prs.item {i : Nat} {x : L2.V} (h : Prs K H vs rs) (hx : vs[i]? = some x) : i < rs.length ∧ ∃ r, x = .ref r ∧ SqT K H r (pV (g (es rs) i, ct rs i)) := by
  have hi : i < rs.length := by rw [← h.1]; exact (List.getElem?_eq_some_iff.mp hx).1
  obtain ⟨r, hr, hS⟩ := h.2 i _ (rs_at hi)
  rw [hx] at hr
  exact ⟨hi, r, Option.some.inj hr, hS⟩
theorem PrT.ex (h : PrT K H a rs) (X : Ex H H') : PrT K H' a rs := by
  obtain ⟨vs, h1, h2⟩ := h
  exact ⟨vs, Evl.ex_t X h1, h2.ex X⟩
/-- data of pairs -/
def pD (p : Int × Nat) : PyData := .tuple [.int p.1, .int (p.2 : Int)]
theorem Prs.dp : ∀ {rs : Rn} {vs : List L2.V}, Prs K H vs rs → DpAll K H vs (rs.map pD)
  | [], [], _ => .nil
  | [], v :: vs, h => absurd h.1 (by simp)
  | q :: rs, [], h => absurd h.1 (by simp)
  | q :: rs, v :: vs, h => by
    obtain ⟨r, hr, hS⟩ := h.2 0 q rfl
    have : v = .ref r := Option.some.inj hr
    subst this
    refine .cons (.tup hS (.cons (.int _) (.cons (.int _) .nil))) (Prs.dp (rs := rs) (vs := vs) ⟨?_, fun i p hp => h.2 (i + 1) p hp⟩)
    have := h.1
    simp only [List.length_cons] at this
    omega
theorem eqv_pD (p q : Int × Nat) : PyData.eqv (pD p) (pD q) = decide (p = q) := by
  unfold pD
  simp only [PyData.eqv, PyData.eqvAll, Bool.and_true]
  rw [Bool.eq_iff_iff]
  simp [Prod.ext_iff, Int.natCast_inj]
theorem eqv_pDs : ∀ rs qs : Rn, PyData.eqvAll (rs.map pD) (qs.map pD) = decide (rs = qs)
  | [], [] => rfl
  | [], z :: zs => by simp [PyData.eqvAll]
  | y :: ys, [] => by simp [PyData.eqvAll]
  | y :: ys, z :: zs => by
    simp only [List.map_cons, PyData.eqvAll, eqv_pD, eqv_pDs ys zs]
    by_cases h1 : y = z
    · subst h1; simp
    · simp [h1]
theorem eqv_prs (rs qs : Rn) : PyData.eqv (.tuple (rs.map pD)) (.tuple (qs.map pD)) = decide (rs = qs) := by
  simp only [PyData.eqv]; exact eqv_pDs rs qs
theorem lay_pDs : ∀ rs : Rn, PyData.canLayAll0 (rs.map pD) = true
  | [] => rfl
  | y :: ys => by simp only [List.map_cons, PyData.canLayAll0, lay_pDs ys]; rfl
theorem depth_pDs : ∀ rs : Rn, PyData.depthAll (rs.map pD) ≤ 1
  | [] => Nat.zero_le _
  | y :: ys => by
    have := depth_pDs ys
    have e : PyData.depth (pD y) = 1 := rfl
    simp only [List.map_cons, PyData.depthAll, e]; omega
theorem shaped_prs (rs : Rn) : SeqAt.shaped (.tuple (rs.map pD)) = true := by
  have := depth_pDs rs
  simp only [SeqAt.shaped, PyData.canLay0, PyData.depth, lay_pDs, Bool.true_and]
  exact decide_eq_true (by omega)
end
/-! ### blocks -/
structure Bk (rs : Rn) : Prop where
  lo : 1 ≤ rs.length
  hi : rs.length ≤ 200
  ok : ∀ p ∈ rs, -10 ^ 30 ≤ p.1 ∧ p.1 ≤ 10 ^ 30 ∧ 1 ≤ p.2 ∧ p.2 ≤ 10 ^ 28
theorem Bk.pos {rs : Rn} (B : Bk rs) : ∀ p ∈ rs, 1 ≤ p.2 := fun p h => (B.ok p h).2.2.1
/-! ### walking over what is a list or a tuple -/
def iOr (a b : TI) : TI := fun σ H R => a σ H R ∨ b σ H R
theorem pi_or {X : Cx} {tg e : Expr} {a b : TI} (ha : PI X tg e a) (hb : PI X tg e b) : PI X tg e (iOr a b) :=
  ⟨fun pins s σ H R I h => h.elim (fun h => ha.run pins s σ H R I h) fun h => hb.run pins s σ H R I h⟩
/-- a list or a tuple of pairs -/
def PrA (K : PySem.W.Frag) (H : Hp) (a : Addr) (rs : Rn) : Prop := ∃ vs : List L2.V, (H a = some (.lst vs) ∨ SqT K H a vs) ∧ Prs K H vs rs
theorem nd_bound {xs : List Int} {n : Nat} (h : Nd xs n) : (n : Int) ≤ max 2 (xs.length : Int) + 1 := by
  match n, h with
  | 0, _ => omega
  | 1, _ => omega
  | n + 2, h =>
    have h1 := nd_fib h
    have key : ∀ k : Nat, (k : Int) + 1 ≤ fib (k + 3) := by
      intro k
      induction k with
      | zero => decide
      | succ k ih =>
        have : 1 ≤ fib (k + 2) := fib_pos (k + 1)
        have e : fib (k + 1 + 3) = fib (k + 2) + fib (k + 3) := rfl
        rw [e]
        omega
    have := key (n + 1)
    rw [show n + 1 + 3 = n + 4 by omega] at this
    omega
theorem ExB.mut {t fl : Addr} {H H1 : Hp} {o : HO} (E : ExB t H H1) (h : H fl = none) : ExB t H (L2.upd H1 fl o) := fun b u n hb => by
  rw [upd_ne (ne_of_none hb h)]; exact E b u n hb
section
variable {K : PySem.W.Frag}
theorem prs_push {H1 : Hp} {fl t : Addr} {ws : List L2.V} {rs : Rn} {q : Int × Nat} (hw : H1 fl = some (.lst ws)) (hW : Prs K H1 ws rs) (ht : H1 t = none) :
    ∃ ws', (upd (upd H1 t (.tup (pV q))) fl (.lst (ws ++ [.ref t]))) fl = some (.lst ws') ∧ Prs K (upd (upd H1 t (.tup (pV q))) fl (.lst (ws ++ [.ref t]))) ws' (rs ++ [q]) := by
  have Xt := Evl.Ex.new (o := .tup (pV q)) ht
  have hw2 := Xt _ _ hw
  exact ⟨_, upd_same, ((hW.ex Xt).mut hw2).snoc (sqT_mut (SqT.of upd_same) hw2)⟩
theorem prs_set {H1 : Hp} {fl t : Addr} {ws : List L2.V} {ini : Rn} {l q : Int × Nat} (hw : H1 fl = some (.lst ws)) (hW : Prs K H1 ws (ini ++ [l])) (ht : H1 t = none) :
    ∃ ws', (upd (upd H1 t (.tup (pV q))) fl (.lst (ws.set ini.length (.ref t)))) fl = some (.lst ws') ∧ Prs K (upd (upd H1 t (.tup (pV q))) fl (.lst (ws.set ini.length (.ref t)))) ws' (ini ++ [q]) := by
  have Xt := Evl.Ex.new (o := .tup (pV q)) ht
  have hw2 := Xt _ _ hw
  exact ⟨_, upd_same, ((hW.ex Xt).mut hw2).setlast (sqT_mut (SqT.of upd_same) hw2)⟩
theorem prs_ix {H1 : Hp} {ws : List L2.V} {ini : Rn} {l : Int × Nat} (hW : Prs K H1 ws (ini ++ [l])) : ixN ws.length (-1) = some ini.length := by
  have h := hW.1
  rw [List.length_append] at h
  simp only [List.length_cons, List.length_nil] at h
  unfold ixN
  rw [if_neg (by decide), if_pos (by omega), h]
  congr 1
  omega
theorem shaped_prl (rs : Rn) : SeqAt.shaped (.list (rs.map pD)) = true := by
  have := depth_pDs rs
  simp only [SeqAt.shaped, PyData.canLay0, PyData.depth, lay_pDs, Bool.true_and]
  exact decide_eq_true (by omega)
theorem eqv_prl (rs qs : Rn) : PyData.eqv (.list (rs.map pD)) (.list (qs.map pD)) = decide (rs = qs) := by
  simp only [PyData.eqv]; exact eqv_pDs rs qs
end
/-- a row as blocks of one entry -/
def ones1 (xs : List Int) : Rn := xs.map fun x => (x, 1)
theorem xpn_ones1 : ∀ xs : List Int, xpn (ones1 xs) = xs
  | [] => rfl
  | x :: xs => by show xpn ((x, 1) :: ones1 xs) = _; rw [xpn_cons, xpn_ones1 xs]; rfl
theorem ones1_pos {xs : List Int} : ∀ p ∈ ones1 xs, 1 ≤ p.2 := fun p h => by
  obtain ⟨x, _, rfl⟩ := List.mem_map.mp h
  exact Nat.le_refl _
theorem mrg_ones1 {xs : List Int} {i : Nat} (h : i < xs.length) : mrg (ones1 (xs.take (i + 1))) = putR (mrg (ones1 (xs.take i))) (g xs i, 1) := by
  unfold mrg ones1
  rw [List.take_add_one, g_get h, List.map_append, List.foldl_append]; rfl
theorem cn_ones1 (xs : List Int) : Cn (mrg (ones1 xs)) := Cn.mrg ones1_pos
theorem xpn_mem : ∀ {l : Rn} {p : Int × Nat}, p ∈ l → 1 ≤ p.2 → p.1 ∈ xpn l ∧ p.2 ≤ (xpn l).length
  | q :: l, p, h, hp => by
    rw [xpn_cons, List.mem_append, List.length_append, List.length_replicate]
    rcases List.mem_cons.mp h with e | e
    · subst e
      exact ⟨.inl (List.mem_replicate.mpr ⟨by omega, rfl⟩), by omega⟩
    · obtain ⟨a, b⟩ := xpn_mem e hp
      exact ⟨.inr a, by omega⟩
theorem bk_of {rs : Rn} {xs : List Int} (hp : ∀ p ∈ rs, 1 ≤ p.2) (hx : xpn rs = xs) (R : Rw xs) (hl : rs.length ≤ 200) : Bk rs := by
  refine ⟨?_, hl, fun p hm => ?_⟩
  · rcases Nat.eq_zero_or_pos rs.length with h | h
    · have e : rs = [] := List.length_eq_zero_iff.mp h
      subst e
      have := R.lo
      rw [← hx] at this
      exact absurd this (by decide)
    · exact h
  · obtain ⟨a, b⟩ := xpn_mem hm (hp p hm)
    rw [hx] at a b
    have := R.ok _ a
    have h2 := R.hi
    exact ⟨this.1, this.2, hp p hm, Nat.le_trans b (Nat.le_trans h2 (by decide))⟩
theorem len_xpn_le : ∀ {l : Rn}, (∀ p ∈ l, 1 ≤ p.2) → l.length ≤ (xpn l).length
  | [], _ => Nat.zero_le _
  | p :: l, h => by
    have h1 := h p (List.mem_cons_self ..)
    have h2 := len_xpn_le (l := l) fun q hq => h q (List.mem_cons_of_mem _ hq)
    rw [xpn_cons, List.length_append, List.length_replicate, List.length_cons]
    omega
end Sx

set_option Elab.async false
set_option linter.all false
set_option maxRecDepth 100000
namespace Sx
open PySem PySem.Spec PyProof.Rows L2
/-! ### tuples that are known to be plain, and what is counted in them -/
/-- a plain tuple, made by the program -/
def PT (H : Hp) (a : Addr) (xs : List L2.V) : Prop := ∃ ob : Obj, H a = some (.frz ob (.tup xs)) ∧ ob.cls = .type "tuple" ∧ ob.dict = none
section
variable {K : PySem.W.Frag} {H H' : Hp} {a p t : Addr} {xs ys zs : List L2.V}
theorem PT.sq (h : PT H a xs) : SqT K H a xs := by
  obtain ⟨ob, h1, _⟩ := h
  exact .inl (.inr ⟨ob, h1⟩)
theorem PT.ex (h : PT H a xs) (X : Ex H H') : PT H' a xs := by
  obtain ⟨ob, h1, h2⟩ := h
  exact ⟨ob, X _ _ h1, h2⟩
theorem PT.ne (h : PT H a xs) (hp : H p = some (.lst ys)) : a ≠ p := by
  obtain ⟨ob, h1, _⟩ := h
  rintro rfl
  rw [h1] at hp; cases hp
theorem PT.mut (h : PT H a xs) (hp : H p = some (.lst ys)) : PT (L2.upd H p (.lst zs)) a xs := by
  have n := h.ne hp
  obtain ⟨ob, h1, h2⟩ := h
  exact ⟨ob, by rw [upd_ne n]; exact h1, h2⟩
theorem PT.exB (h : PT H a xs) (E : ExB t H H') (ht : H t = some (.lst ys)) : PT H' a xs := by
  have n := h.ne ht
  obtain ⟨ob, h1, h2⟩ := h
  exact ⟨ob, E _ _ n h1, h2⟩
end
def rTupP (K : PySem.W.Frag) : List V → Hp → VK → Prop := fun as H Q => ∃ b zs, as = [.ref b] ∧ SqL K H b zs ∧ ∀ c ob, H c = none → ob.cls = .type "tuple" → ob.dict = none → Q (.ref c) (upd H c (.frz ob (.tup zs)))
/-- tuple(a list), the object told -/
theorem cr_tupleP {X : Cx} : CallR X (.type "tuple") (rTupP X.K) := by
  intro pp st sg HH as us QQ JJ rr hh
  obtain ⟨b, zs, rfl, hq, qq⟩ := hh
  obtain ⟨u0, rfl, r0⟩ := vals1 rr
  cases r0
  obtain ⟨items, r1, hpl, hzz⟩ := JJ.list hq
  have hll := r1.length
  refine call_tuple_list hpl.isList (fun hp2 kp2 => ?_) (by simp only [List.size_toArray]; omega)
  have J1 : Inv X pp sg HH { st with heap := hp2 } := JJ.kept (t' := st.toks) kp2
  refine ⟨.ref hp2.objs.size, upd HH hp2.objs.size (.frz { cls := .type "tuple", data := .seq items.toArray } (.tup zs)), ?_, rfl, qq _ _ (J1.hok.fresh (Nat.le_refl _)) rfl rfl⟩
  exact J1.laid (t' := st.toks) (fun b2 o2 e2 => Heap.get?_push_of_some _ e2) (Nat.le_refl _) ⟨Heap.get?_push_size _ rfl, hzz, items, r1, IsTup.new _ _⟩
/-- how often an int stands in a tuple -/
def rCntT (K : PySem.W.Frag) : V → List V → Hp → VK → Prop := fun x xs H Q => ∃ (c : Addr) (zs : List Int) (z : Int), x = .ref c ∧ xs = [.int z] ∧ SqT K H c (zs.map V.int) ∧ Q (.int ((zs.count z : Nat) : Int)) H
theorem mt_tcount {X : Cx} : MtR X "tuple.count" (rCntT X.K) := by
  intro pp st sg HH x0 x1 v0 v1 QQ JJ r0 r1 hh
  obtain ⟨c, zs, z, rfl, rfl, hq, qq⟩ := hh
  cases r0
  obtain ⟨u0, rfl, t0, rfl⟩ := vals1 r1
  obtain ⟨items, rv, hpl, hzz⟩ := JJ.tuple hq
  obtain ⟨⟨cl, d1, d2, s2⟩, hob, hcl, n0, hdt⟩ := hpl
  simp only at hcl hdt
  subst hcl
  subst hdt
  have hints := ints_of_vals rv
  have hev : items.toArray.toList.countP (eqk z) = zs.count z := eqk_count hints
  refine call_meets PySem.F.slot_tuple_count ⟨_, hob, rfl⟩ PySem.F.entry_tuple_count (PySem.F.args_tuple_count_2 _ _)
    (SeqAt.tuple_countAt c items.toArray n0 d1 s2 (.int z t0) (eqk z)) ⟨hob, fun w hw => (eqk_gives hints w (by simpa using hw)).at _ _, ?_⟩
  refine ⟨.int ((zs.count z : Nat) : Int), HH, JJ.tok _, ⟨st.toks, ?_⟩, qq⟩
  rw [hev]
/-- t.count(x) -/
def tTCount (K : PySem.W.Frag) (to te : TE) : TE := fun σ H Q => to σ H fun x H1 => ∃ c, ∃ zs : List Int, x = .ref c ∧ PT H1 c (zs.map V.int) ∧ te σ H1 fun y H2 => ∃ z : Int, y = .int z ∧ PT H2 c (zs.map V.int) ∧ Q (.int ((zs.count z : Nat) : Int)) H2
theorem pe_tcount {X : Cx} {o e : Expr} {apos cpos : Pos} {to te : TE} (ho : PE X o to) (he : PE X e te)
    (hb : attributeBase o "count" X.env (eval o X.env) = eval o X.env := by rfl) (hl : (apos.endLine == cpos.line) = true := by rfl)
    (ht : backTo cpos (starEach [e] X.env) = [(false, eval e X.env)] := by rfl) :
    PE X (.Call (.Attribute o "count" apos) [e] [] cpos) (tTCount X.K to te) := by
  refine ⟨fun pp st sg HH QQ JJ hh => ?_⟩
  refine wpAny_Call_method1_late hb hl ht (thn (ho.run pp st sg HH _ JJ hh) fun v0 s1 ⟨x, H1, J1, r1, c, zs, hx, hPT, q1⟩ => ?_)
  subst hx
  cases r1
  obtain ⟨ob, hob, hcl, hdi⟩ := hPT
  have hget : s1.heap.get? c = some ob := (J1.hok c _ hob).1
  refine ⟨"tuple", "tuple.count", PySem.F.plainAttrs_tuple, PySem.F.slot_tuple_count, PySem.F.type_tuple_count, ⟨ob, hget, hcl⟩, fun b2 e2 => ?_, ?_⟩
  · cases e2
    exact ⟨ob, hget, hdi⟩
  refine Calls.callWith_builtin rfl (Calls.evalArgs_plain (Calls.spliced_cons (thn (he.run pp s1 sg H1 _ J1 q1) fun u s2 ⟨y, H2, J2, r2, z, hy, hPT2, q2⟩ => Calls.spliced_nil ?_)))
  subst hy
  exact mt_tcount pp s2 sg H2 (.ref c) [.int z] (.ref c) [u] QQ J2 rfl (.cons r2 .nil) ⟨c, zs, z, rfl, rfl, hPT2.sq, q2⟩
end Sx
namespace Sx
open PySem PySem.Spec PyProof.Rows L2
/-- p holds the rows after 0 to n rounds, plain tuples -/
def RwsP (H : Hp) (p : Addr) (xs : List Int) (n : Nat) : Prop :=
  ∃ vs : List L2.V, H p = some (.lst vs) ∧ vs.length = n + 1 ∧ ∀ j, j ≤ n → ∃ b, vs[j]? = some (.ref b) ∧ PT H b ((ro j xs).map L2.V.int)
def rCatP (K : PySem.W.Frag) : R2 := fun x y H Q => ∃ a b xs ys, x = .ref a ∧ y = .ref b ∧ SqT K H a xs ∧ SqT K H b ys ∧ xs.length + ys.length ≤ sizeLine ∧ xs ≠ [] ∧ ys ≠ [] ∧
  ∀ c ob, H c = none → ob.cls = .type "tuple" → ob.dict = none → Q (.ref c) (upd H c (.frz ob (.tup (xs ++ ys))))
/-- t + u of two tuples that are not empty, the object told -/
theorem op_catP {X : Cx} : OpR X (binaryOp .Add) (rCatP X.K) := by
  intro pp st sg HH x0 y0 v0 u0 QQ JJ rx ry hh
  obtain ⟨a, b, xs, ys, rfl, rfl, ha, hb, hz, hx, hy, qq⟩ := hh
  cases rx
  cases ry
  obtain ⟨i1, r1, p1, _⟩ := JJ.tuple ha
  obtain ⟨i2, r2, p2, _⟩ := JJ.tuple hb
  refine HT.cat_tup p1 p2 (fun z => hx (r1.nil_iff.mp z)) (fun z => absurd (r2.nil_iff.mp z) hy) (fun z => ?_) (by rw [← r1.length, ← r2.length]; exact hz)
  refine ⟨.ref st.heap.objs.size, upd HH st.heap.objs.size (.frz { cls := .type "tuple", data := .seq (i1 ++ i2).toArray } (.tup (xs ++ ys))), ?_, rfl, qq _ _ (JJ.hok.fresh (Nat.le_refl _)) rfl rfl⟩
  refine JJ.laid (t' := st.toks) (fun b2 o2 e2 => Heap.get?_push_of_some _ e2) (Nat.le_refl _) ⟨?_, by rw [List.length_append]; exact hz, i1 ++ i2, r1.append r2, IsTup.new _ _⟩
  exact Heap.get?_push_size _ rfl
theorem Tub.ne {H : Hp} {t b : Addr} {m : Int} (T : Tub H t m) (h : H b = none) : b ≠ t := by
  obtain ⟨_, hT⟩ := T.get
  exact (ne_of_none hT h).symm
theorem Tub.tup {K : PySem.W.Frag} {H H' : Hp} {t a : Addr} {m : Int} {xs : List L2.V} (T : Tub H t m) (E : ExB t H H') (h : SqT K H a xs) : SqT K H' a xs := by
  obtain ⟨_, hT⟩ := T.get
  exact E.tup hT h
theorem Tub.pt {H H' : Hp} {t a : Addr} {m : Int} {xs : List L2.V} (T : Tub H t m) (E : ExB t H H') (h : PT H a xs) : PT H' a xs := by
  obtain ⟨_, hT⟩ := T.get
  exact h.exB E hT
theorem Tub.prt {K : PySem.W.Frag} {H H' : Hp} {t a : Addr} {m : Int} {rs : Rn} (T : Tub H t m) (E : ExB t H H') (h : PrT K H a rs) : PrT K H' a rs := by
  obtain ⟨_, hT⟩ := T.get
  obtain ⟨ws, h1, h2⟩ := h
  exact ⟨ws, T.tup E h1, h2.exB E hT⟩
/-! ### what forests and long rows have in common -/
/-- no children: the entry is 1 -/
theorem leaf {zs : List Int} (L : Lam zs) {p : Nat} (hp : p < zs.length) : (sel zs.length (fun c => decide (par zs c = some p)) = []) ↔ g zs p = 1 := by
  rw [← kids L hp]
  have a1 := L.lo p hp
  have a2 := L.hi p hp
  have e : fc zs p = p - g zs p + 1 := rfl
  cases p with
  | zero => exact ⟨fun _ => by omega, fun _ => rfl⟩
  | succ k =>
    unfold unc
    by_cases c : fc zs (k + 1) ≤ ((k + 1 : Nat) : Int) - 1
    · rw [if_pos c]
      exact ⟨fun h => absurd h (by simp), fun h => by omega⟩
    · rw [if_neg c]
      exact ⟨fun _ => by omega, fun _ => rfl⟩
theorem leaves_count {zs : List Int} : ∀ k, k ≤ zs.length → (((List.range k).filter fun p => decide (g zs p = 1)).length) = (zs.take k).count 1
  | 0, _ => rfl
  | k + 1, h => by
    rw [List.range_succ, List.filter_append, List.length_append, leaves_count k (by omega), List.take_add_one, g_get (by omega), List.count_append]
    congr 1
    by_cases c : g zs k = 1
    · simp [c]
    · simp [c]
theorem unc_sum {zs : List Int} (L : Lam zs) : ∀ (k : Nat) (p : Int), p < (k : Int) → -1 ≤ p → p < zs.length → ((unc zs 0 k p).map fun r => g zs r.toNat).sum = p + 1
  | 0, p, h1, h2, _ => by show (0 : Int) = p + 1; omega
  | k + 1, p, h1, h2, h3 => by
    unfold unc
    by_cases c : 0 ≤ p
    · have hl : p.toNat < zs.length := by omega
      have a1 := L.lo _ hl
      have a2 := L.hi _ hl
      have e : fc zs p.toNat = p - g zs p.toNat + 1 := by unfold fc; omega
      rw [if_pos c, List.map_append, List.sum_append, unc_sum L k _ (by omega) (by omega) (by omega)]
      show _ + (g zs p.toNat + 0) = _
      omega
    · rw [if_neg c]
      show (0 : Int) = p + 1
      omega
theorem roots_sum {zs : List Int} (L : Lam zs) : ((sel zs.length (fun c => decide (par zs c = none))).map fun r => g zs r.toNat).sum = zs.length := by
  rw [← tops L, unc_sum L _ _ (by omega) (by omega) (by omega)]
  omega
/-- equal entries behind a row -/
theorem ro_behind (xs : List Int) (e : Int) (c : Nat) : ∀ t, ro (t + 1) (xs ++ List.replicate (c + 1) e) = ro (t + 1) (xs ++ [e]) ++ List.replicate c 1
  | 0 => spans_rep xs e c
  | t + 1 => by
    show spans (ro (t + 1) (xs ++ List.replicate (c + 1) e)) = spans (ro (t + 1) (xs ++ [e])) ++ _
    rw [ro_behind xs e c t]
    refine spans_ones (fun i hi => ?_) ?_ c
    · exact (spans_lam (ro t (xs ++ [e]))).lo i hi
    · rw [ro_len, List.length_append]; simp
/-- lower entries in front of a row -/
theorem bk_right {ys xs : List Int} {e : Int} : ∀ f, bk (ys ++ xs) e (ys.length + f) = if bk xs e f = 0 then bk ys e ys.length else ys.length + bk xs e f
  | 0 => by
    rw [if_pos (show bk xs e 0 = 0 from rfl)]
    exact bk_leftL (Nat.le_refl _)
  | f + 1 => by
    have eg : g (ys ++ xs) (ys.length + f) = g xs f := by
      unfold g
      rw [List.getD_eq_getElem?_getD, List.getElem?_append_right (by omega), List.getD_eq_getElem?_getD, show ys.length + f - ys.length = f by omega]
    have e1 : bk (ys ++ xs) e (ys.length + (f + 1)) = if g (ys ++ xs) (ys.length + f) < e then bk (ys ++ xs) e (ys.length + f) else ys.length + f + 1 := rfl
    have e2 : bk xs e (f + 1) = if g xs f < e then bk xs e f else f + 1 := rfl
    rw [e1, e2, eg]
    by_cases c : g xs f < e
    · rw [if_pos c, if_pos c, bk_right f]
    · rw [if_neg c, if_neg c, if_neg (by omega)]
      omega
theorem bk_low {low e : Int} (h : low < e) : ∀ n f, f ≤ n → bk (List.replicate n low) e f = 0
  | _, 0, _ => rfl
  | n, f + 1, hf => by
    have eg : g (List.replicate n low) f = low := by
      unfold g
      rw [List.getD_eq_getElem?_getD, List.getElem?_replicate, if_pos (by omega)]; rfl
    show (if g (List.replicate n low) f < e then bk (List.replicate n low) e f else f + 1) = 0
    rw [eg, if_pos h]
    exact bk_low h n f (by omega)
theorem spans_front {low : Int} {n : Nat} {xs : List Int} (h : ∀ x ∈ xs, low < x) {i : Nat} (hi : i < xs.length) :
    g (spans (List.replicate n low ++ xs)) (n + i) = g (spans xs) i + (n : Int) * (if g (spans xs) i = (i : Int) + 1 then 1 else 0) := by
  have hl : n + i < (List.replicate n low ++ xs).length := by rw [List.length_append, List.length_replicate]; omega
  rw [spans_g hl, spans_g hi]
  unfold spn
  have eg : g (List.replicate n low ++ xs) (n + i) = g xs i := by
    unfold g
    rw [List.getD_eq_getElem?_getD, List.getElem?_append_right (by rw [List.length_replicate]; omega), List.getD_eq_getElem?_getD, List.length_replicate, show n + i - n = i by omega]
  have eb := bk_right (ys := List.replicate n low) (xs := xs) (e := g xs i) i
  rw [List.length_replicate] at eb
  rw [eg, eb]
  by_cases c : bk xs (g xs i) i = 0
  · rw [if_pos c, bk_low (h _ (g_mem hi)) n n (Nat.le_refl _), c, if_pos (by omega)]
    omega
  · rw [if_neg c, if_neg (by omega)]
    omega
theorem spans_head {low : Int} {n : Nat} {xs : List Int} {j : Nat} (hj : j < n) : g (spans (List.replicate n low ++ xs)) j = 1 := by
  have e : (spans (List.replicate n low ++ xs)).take n = spans (List.replicate n low) := by
    rw [← spans_take, List.take_left']
    rw [List.length_replicate]
  have h1 : g (spans (List.replicate n low ++ xs)) j = g (spans (List.replicate n low)) j := by rw [← e, g_take hj]
  rw [h1]
  obtain ⟨c, rfl⟩ : ∃ c, n = c + 1 := ⟨n - 1, by omega⟩
  have := spans_rep [] low c
  rw [List.nil_append, List.nil_append] at this
  rw [this]
  have e1 : spans [low] = [1] := rfl
  rw [e1]
  unfold g
  rw [List.getD_eq_getElem?_getD, show ([1] : List Int) ++ List.replicate c 1 = List.replicate (c + 1) 1 by rw [List.replicate_succ]; rfl, List.getElem?_replicate, if_pos hj]
  rfl
end Sx

set_option Elab.async false
set_option linter.all false
namespace Sx
open PySem PySem.Spec
open PyProof.Rows L2 Sx
/-- the state of the draws of the third kind -/
def Mug (H : Hp) (t : Addr) (m : Int) : Prop := ∃ x0 x1 x2 : Int, H t = some (.lst [.int x0, .int x1, .int x2]) ∧ 0 ≤ x1 ∧ x1 < 10 ^ 46 ∧ 0 ≤ x2 ∧ x2 ≤ m
theorem Mug.ex {H H' : Hp} {t : Addr} {m : Int} (T : Mug H t m) (e : Ex H H') : Mug H' t m := by
  obtain ⟨x0, x1, x2, h, r⟩ := T
  exact ⟨x0, x1, x2, e _ _ h, r⟩
theorem Mug.le {H : Hp} {t : Addr} {m n : Int} (T : Mug H t m) (h : m ≤ n) : Mug H t n := by
  obtain ⟨x0, x1, x2, h1, h2, h3, h4, h5⟩ := T
  exact ⟨x0, x1, x2, h1, h2, h3, h4, by omega⟩
theorem Mug.exB {H H' : Hp} {t b : Addr} {m : Int} (T : Mug H t m) (e : ExB b H H') (n : t ≠ b) : Mug H' t m := by
  obtain ⟨x0, x1, x2, h, r⟩ := T
  exact ⟨x0, x1, x2, e _ _ n h, r⟩
theorem Mug.get {H : Hp} {t : Addr} {m : Int} (T : Mug H t m) : ∃ xs, H t = some (.lst xs) := by
  obtain ⟨x0, x1, x2, h, r⟩ := T
  exact ⟨_, h⟩
theorem Mug.ne {H : Hp} {t b : Addr} {m : Int} (T : Mug H t m) (h : H b = none) : b ≠ t := by
  obtain ⟨_, hT⟩ := T.get
  exact (ne_of_none hT h).symm
theorem Mug.tup {K : PySem.W.Frag} {H H' : Hp} {t a : Addr} {m : Int} {xs : List V} (T : Mug H t m) (E : ExB t H H') (h : SqT K H a xs) : SqT K H' a xs := by
  obtain ⟨_, hT⟩ := T.get
  exact E.tup hT h
end Sx

set_option Elab.async false
set_option linter.all false
set_option maxRecDepth 100000
set_option maxHeartbeats 4000000
namespace Sx
open PySem PySem.Spec
open PyProof.Rows L2
/-! ### the set of a list of ints -/
/-- the set as it is made, with nothing in it -/
abbrev emptyS (w : World) : Obj := { cls := .type "set", dict := none, data := .set #[] 0 (.fresh 0 0 (!w.params.followText "set-order")) }
/-- what is so behind the filling -/
abbrev Filled (w : World) (s : Shared) (ns : List Int) (r : Value) (s2 : Shared) : Prop :=
  r = .none ∧ ∃ hp tk c, s2 = { s with heap := hp, toks := tk } ∧ SetR w hp s.heap.objs.size (fun j => decide (j ∈ ns)) c ∧ c ≤ ns.length ∧ ∀ b o, s.heap.get? b = some o → hp.get? b = some o
section
variable {P : Program} {w : World} {A : Around} {E : Value → Shared → Prop} {s : Shared}
theorem set_of_list {l : Addr} {its : Array Value} {ns : List Int} {Q : Value → Shared → Prop} (calm : A.handled = none) (hL : s.heap.IsList l its) (hI : IntsAre its.toList ns) (few : ns.length + 1 < scanBound)
    (done : ∀ (hp : Heap) (tk c : Nat), SetR w hp s.heap.objs.size (fun j => decide (j ∈ ns)) c → c ≤ ns.length → (∀ b o, s.heap.get? b = some o → hp.get? b = some o) → Q (.ref s.heap.objs.size) { s with heap := hp, toks := tk }) :
    wpAny (model P w) A (call (.type "set") [.ref l]) Q E s := by
  have size : its.size = ns.length := (Array.length_toList (xs := its)).symm.trans hI.length
  obtain ⟨mroA, mroB, mro⟩ := F.called_set.mro
  have m1 := F.called_set.made
  have m2 := F.called_set.sub
  refine wpAny_call (codeAny_of_tree (show wpAny _ _ (callAny (.type "set") _) _ _ _ from ?_))
  refine wpAny_pure ⟨Code.quiet_builtin _ (by decide +kernel), codeAny_builtin F.entry_type_call ?_⟩
  rw [Around.under_plain (weight_type_call_type "set" [.ref l] []) rfl]
  have m3 := F.called_set.notType
  have m4 := F.called_set.canCreate
  have m5 := F.typeCall_set_1 (.ref l)
  repeat (any_goals (first | assumption | wp_step))
  refine codeAny_mono (code_set_led1 (.ref l) (E := E) (Q₁ := fun v t => v = .ref s.heap.objs.size ∧ t = { s with heap := s.heap.push (emptyS w) }) ⟨rfl, rfl⟩) fun r t made => ?_
  match r, made with
  | .error e, made => exact made
  | .ok (.ret v), made =>
    obtain ⟨rfl, rfl⟩ := made
    have hS : (s.heap.push (emptyS w)).get? s.heap.objs.size = some (emptyS w) := Heap.get?_push_size _ rfl
    have hT : Shared.TypeIs { s with heap := s.heap.push (emptyS w) } (.ref s.heap.objs.size) "set" := ⟨_, hS, rfl⟩
    have m6 := F.called_set.init.lookup
    have m7 := F.called_set.init.bind (.ref s.heap.objs.size)
    repeat (any_goals (first | assumption | wp_step))
    refine codeAny_mono (codeAny_call_builtin (R := wants (Filled w s ns) E) F.called_set.init.plain F.entry_set_init (check_set_init_1 hT ?fill)) fun r2 t2 end2 => ?back
    case fill =>
      obtain ⟨⟨cl, di, da, sl⟩, hob, hcl, nl, hda⟩ := hL
      simp only at hcl hda
      subst hcl hda
      have hob2 : (s.heap.push (emptyS w)).get? l = some { cls := .type "list", dict := di, data := .seq its nl, slots := sl } := Heap.get?_push_of_some _ hob
      have m8 := F.sub_list_set
      have m9 := F.sub_list_frozenset
      have m0 : (Value.type "list" == Value.type "dict") = false := by decide
      have hL1 : (s.heap.push (emptyS w)).IsList l its := ⟨_, hob2, rfl, nl, rfl⟩
      have lS : l < s.heap.objs.size := Heap.lt_size hob
      unfold Builtin.«set.__init__» noKeywords Builtin.Frozenset.updateFrom
      generalize hIt : pyIter = It
      wp_walk
      subst hIt
      refine wpAny_pyIter_list hL1 (wpAny_bind (wpAny_runValue ?_))
      have big : (s.heap.push (emptyS w)).objs.size = s.heap.objs.size + 1 := Heap.size_push ..
      have l1 : l ≠ (s.heap.push (emptyS w)).objs.size := fun h => Nat.ne_of_lt (Nat.lt_succ_of_lt lS) (h.trans big)
      have out2 : s.heap.objs.size ∉ [(s.heap.push (emptyS w)).objs.size, l] := by
        rw [big]
        intro h
        rcases List.mem_cons.mp h with h | h
        · exact Nat.ne_of_lt (Nat.lt_succ_self _) h
        · exact Nat.ne_of_gt lS (List.mem_singleton.mp h)
      have each : ∀ (i : Nat) (v : Value), its[i]? = some v → ∃ k t, ns[i]? = some k ∧ v = .int k t := by
        intro i v hv
        have hi : i < ns.length := size ▸ (Array.getElem?_eq_some_iff.mp hv).1
        obtain ⟨t, e⟩ := IntsAre.int_at hI i v ((Array.getElem?_toList ..).trans hv)
        exact ⟨ns[i], t, List.getElem?_eq_getElem hi, by rw [e, List.getD_eq_getElem?_getD, List.getElem?_eq_getElem hi]; rfl⟩
      refine set_update_ints (Walks.list (by simp [calm]) _ l l1 its).toS s.heap.objs.size out2 ns size few each (its.size - 0) 0 _ (by omega) (Nat.zero_le _) ⟨⟨_, Heap.get?_push_size _ rfl, rfl, rfl⟩, hL1.push _⟩ ?_ ?_
      · exact ⟨0, Nat.le_refl 0, setR_new_at (Heap.get?_push_of_some _ hS)⟩
      · rintro ⟨hp, gs, dr, tk, os⟩ c hm hc hR
        have e1 : gs = s.gens := hm.gens
        have e2 : dr = s.drawn := hm.drawn
        have e3 : os = s.os := hm.os
        subst e1 e2 e3
        refine wpAny_pure (wpAny_pure ⟨rfl, hp, tk, c, rfl, hR, size ▸ hc, fun b o e => ?_⟩)
        have hb := Heap.lt_size e
        refine hm.heap b o (fun h => ?_) (Heap.get?_push_of_some _ (Heap.get?_push_of_some _ e))
        rcases List.mem_cons.mp h with h | h
        · exact Nat.ne_of_lt hb h
        · exact Nat.ne_of_lt (Nat.lt_succ_of_lt hb) ((List.mem_singleton.mp h).trans big)
    case back =>
      match r2, end2 with
      | .error e, end2 => exact end2
      | .ok (.ret v), end2 =>
        obtain ⟨rfl, hp, tk, c, rfl, hR, hc, hk⟩ := end2
        repeat (any_goals (first | assumption | wp_step))
        exact done _ _ _ hR hc hk
end
section
variable {X : Cx}
/-- set(xs) of a list of ints -/
def rSetLI (K : PySem.W.Frag) (w : World) : List V → Hp → VK → Prop := fun xs H Q => ∃ (l : Addr) (ns : List Int), xs = [V.ref l] ∧ SqL K H l (ns.map V.int) ∧ ns.length ≤ 1000 ∧
  ∀ (p : Addr) (c : Nat), H p = none → c ≤ ns.length → Q (.ref p) (upd H p (SetO w p (fun j => decide (j ∈ ns)) c))
theorem cr_setLI (calm : X.calm = true) : CallR X (.type "set") (rSetLI X.K X.w) := by
  intro pp st sg HH vs us QQ JJ rr hh
  obtain ⟨l, ns, rfl, hl, hz, qq⟩ := hh
  rw [Vals.ref1 rr]
  obtain ⟨its, rv, pl, _⟩ := JJ.list hl
  refine set_of_list (ns := ns) (JJ.ok.hd calm) (show st.heap.IsList l its.toArray from pl.isList) (ints_of_vals rv) (by unfold scanBound; omega) fun hp tk c R hc hk => ?_
  exact ⟨.ref st.heap.objs.size, upd HH st.heap.objs.size (SetO X.w st.heap.objs.size (fun j => decide (j ∈ ns)) c), JJ.laid (t' := tk) hk (Nat.le_refl _) (setO_new R), rfl, qq _ c (JJ.hok.fresh (Nat.le_refl _)) hc⟩
end
end Sx

set_option Elab.async false
set_option linter.all false
set_option maxRecDepth 100000
namespace Sx
open PySem PySem.Spec PyProof.Rows L2
/-! ### cuts, and pairs in them -/
section
variable {K : PySem.W.Frag} {H H' : Hp} {a c p t : Addr} {xs ys vs : List L2.V} {rs : Rn} {lo hi : Option Int}
theorem cut_whole (h : HT.sIx xs.length 0 lo = 0 ∧ HT.sIx xs.length xs.length hi = xs.length) : cutV xs lo hi = xs := by
  unfold cutV
  rw [h.1, h.2, List.drop_zero, Nat.sub_zero, List.take_length]
theorem slA_any {Q : VK} (hS : SqT K H c xs) (q : ∀ a' H', Ex H H' → SqT K H' a' (cutV xs lo hi) → Q (.ref a') H') : rSlA K (.ref c) lo hi H Q :=
  ⟨c, xs, rfl, hS, fun hw => q c H (Evl.Ex.refl H) (by rw [cut_whole hw]; exact hS), fun _ p hp => q p _ (Evl.Ex.new hp) (SqT.of upd_same)⟩
theorem cut_mem {v : L2.V} (h : v ∈ cutV xs lo hi) : v ∈ xs := List.mem_of_mem_drop (List.mem_of_mem_take h)
theorem cut_ints (ns : List Int) (lo hi : Option Int) : ∃ ms : List Int, cutV (ns.map L2.V.int) lo hi = ms.map L2.V.int ∧ ms.length ≤ ns.length := by
  refine ⟨(ns.drop (HT.sIx ns.length 0 lo)).take (HT.sIx ns.length ns.length hi - HT.sIx ns.length 0 lo), ?_, ?_⟩
  · unfold cutV
    rw [List.length_map, ← List.map_drop, ← List.map_take]
  · rw [List.length_take, List.length_drop]; omega
theorem Prs.pair (h : Prs K H vs rs) (hp : ∀ p ∈ rs, 1 ≤ p.2) {v : L2.V} (hv : v ∈ vs) : ∃ r, ∃ (e : Int) (c : Nat), v = .ref r ∧ SqT K H r [.int e, .int (c : Int)] ∧ 1 ≤ c := by
  obtain ⟨i, hi⟩ := List.getElem?_of_mem hv
  obtain ⟨h1, r, h2, h3⟩ := h.item hi
  exact ⟨r, _, _, h2, h3, hp _ (List.mem_of_getElem? (rs_at h1))⟩
theorem Mug.prs {m : Int} (T : Mug H t m) (E : ExB t H H') (h : Prs K H vs rs) : Prs K H' vs rs := by
  obtain ⟨_, _, _, hT, _⟩ := T
  exact h.exB E hT
theorem Mug.prt {m : Int} (T : Mug H t m) (E : ExB t H H') (h : PrT K H a rs) : PrT K H' a rs := by
  obtain ⟨ws, h1, h2⟩ := h
  exact ⟨ws, T.tup E h1, T.prs E h2⟩
theorem cnt_le2 : ∀ {rs : Rn}, (∀ p ∈ rs, p.2 ≤ 10 ^ 28) → (xpn rs).length ≤ 10 ^ 28 * rs.length
  | [], _ => Nat.zero_le _
  | p :: rs, h => by
    have h1 := h p (List.mem_cons_self ..)
    have h2 := cnt_le2 (rs := rs) fun q hq => h q (List.mem_cons_of_mem _ hq)
    rw [xpn_cons, List.length_append, List.length_replicate, List.length_cons, Nat.mul_add]
    omega
theorem Prs.cons {r : Addr} {q : Int × Nat} (h : Prs K H vs rs) (hr : SqT K H r (pV q)) : Prs K H (.ref r :: vs) (q :: rs) := by
  refine ⟨by rw [List.length_cons, List.length_cons, h.1], fun i p hp => ?_⟩
  match i, hp with
  | 0, hp => cases hp; exact ⟨r, rfl, hr⟩
  | i + 1, hp => exact h.2 i p hp
theorem tt_take2 {rs : Rn} {k : Nat} (hk : k ≤ rs.length) : (((rs.take k).map fun p => ((p.2 : Nat) : Int))).sum = (tt rs k : Int) := by
  induction k with
  | zero => rfl
  | succ k ih =>
    rw [take_at (by omega), List.map_append, List.sum_append, ih (by omega), tt_succ (by omega)]
    show (tt rs k : Int) + ((ct rs k : Int) + 0) = _
    omega
theorem small16 {n : Nat} (h : n ≤ 100000) : n ≤ sizeLine := Nat.le_trans h (by decide)
theorem cnt_xpn2 (e : Int) : ∀ R : Rn, (((R.filter fun p => decide (p.1 = e)).map fun p => ((p.2 : Nat) : Int))).sum = ((xpn R).count e : Int)
  | [] => rfl
  | p :: R => by
    rw [xpn_cons, List.count_append, List.filter_cons]
    have ih := cnt_xpn2 e R
    by_cases c : p.1 = e
    · rw [if_pos (decide_eq_true c), List.map_cons, List.sum_cons, ih, c, List.count_replicate_self]
      push_cast
      rfl
    · rw [if_neg (by rw [decide_eq_false c]; decide), ih, List.count_eq_zero.mpr (fun h => c (List.mem_replicate.mp h).2.symm)]
      simp
/-- sorted(set(xs)) of a list of ints -/
theorem sorted_set_list {w : World} {D : Addr} {ns : List Int} {Q : VK} (hD : SqL K H D (ns.map L2.V.int)) (hz : ns.length ≤ 1000)
    (q : ∀ (kn : List Int) kp H', Ex H H' → H' kp = some (.lst (kn.map L2.V.int)) → kn.length ≤ ns.length → kn.Pairwise (· < ·) → (∀ k, k ∈ kn ↔ k ∈ ns) → Q (.ref kp) H') :
    rSetLI K w [.ref D] H fun y H1 => rSortedSetB w [y] H1 Q := by
  refine ⟨D, ns, rfl, hD, hz, fun sp c hsp hc => ?_⟩
  have Y1 := Evl.Ex.new (o := SetO w sp (fun j => decide (j ∈ ns)) c) hsp
  refine ⟨sp, _, c, rfl, upd_same, by omega, fun kn kp hpw hm hkl hkp => ?_⟩
  exact q kn kp _ (Y1.trans (Evl.Ex.new hkp)) upd_same (by omega) hpw fun k => (hm k).trans ⟨of_decide_eq_true, fun h => decide_eq_true h⟩
end
end Sx

set_option Elab.async false
set_option linter.all false
set_option maxRecDepth 100000
set_option maxHeartbeats 4000000
namespace Sx
open PySem PySem.Spec PyProof.Rows L2
/-! ### plain tuples: literals, one entry many times, one behind the other -/
section
variable {X : Cx}
def tTupP (t : TA) : TE := fun σ H Q => t σ H fun xs H1 => xs.length ≤ sizeLine ∧ ∀ c ob, H1 c = none → ob.cls = .type "tuple" → ob.dict = none → Q (.ref c) (upd H1 c (.frz ob (.tup xs)))
theorem pe_tupP {es : List Expr} {x1 pos} {t : TA} (h : PA X es t) : PE X (.Tuple es x1 pos) (tTupP t) :=
  ⟨fun pp st sg HH QQ JJ hq => wpAny_Tuple_spliced (thn (h.run pos pp st sg HH _ JJ hq) fun us s1 ⟨xs, H1, J1, r, z, q⟩ => ⟨by rw [← r.length]; exact z,
    .ref s1.heap.objs.size, upd H1 s1.heap.objs.size (.frz { cls := .type "tuple", data := .seq us.toArray } (.tup xs)),
    J1.laid (t' := s1.toks) (fun b u e => Heap.get?_push_of_some _ e) (Nat.le_refl _) ⟨Heap.get?_push_size _ rfl, z, us, r, IsTup.new _ _⟩, rfl, q _ _ (J1.hok.fresh (Nat.le_refl _)) rfl rfl⟩)⟩
/-- one entry many times -/
def rRepP (K : PySem.W.Frag) : R2 := fun x y H Q => ∃ l e k, x = V.ref l ∧ y = V.int k ∧ PT H l [e] ∧ 1 ≤ k ∧ k ≤ 1000 ∧ ∀ c H', Ex H H' → PT H' c (List.replicate k.toNat e) → Q (.ref c) H'
theorem flat_one {α : Type} (e : α) : ∀ n, (List.replicate n [e]).flatten = List.replicate n e
  | 0 => rfl
  | n + 1 => by rw [List.replicate_succ, List.flatten_cons, flat_one e n]; rfl
theorem op_repP : OpR X (binaryOp .Mult) (rRepP X.K) := by
  intro pp st sg HH x y v u QQ JJ rx ry h
  obtain ⟨l, e, k, rfl, rfl, hP, k1, k2, qq⟩ := h
  cases rx
  obtain ⟨t, rfl⟩ := ry
  obtain ⟨its, r, ⟨⟨cls, dd, data, sl⟩, ho, hc, n, hd⟩, hs⟩ := JJ.tuple hP.sq
  simp only at hc hd
  subst hc hd
  obtain ⟨u0, rfl, r0⟩ := vals1 r
  refine wpAny_binaryOp_repeat_ref (T := "tuple") (U := "int") (by decide) ⟨_, ho, rfl⟩ (fun s' => typeIs_int s' k t) noFill_tuple_mul F.fills_int_mul F.slot_int_rmul repeat_tuple F.slot_int_index.lookup (call_meets F.slot_int_rmul (typeIs_int st k t) F.entry_int_rmul (F.args_int_rmul_2 _ _) (int_rmul_tuple k t l [u0].toArray n dd sl) ⟨ho, rfl, ⟨_, ho, rfl⟩, ?_⟩)
  by_cases h1 : k = 1
  · subst h1
    exact call_meets F.slot_tuple_mul ⟨_, ho, rfl⟩ F.entry_tuple_mul (F.args_tuple_mul_2 _ _) (tup_once l [u0].toArray n dd sl t) ⟨ho, .ref l, HH, JJ, rfl, qq l HH (Evl.Ex.refl HH) hP⟩
  · have d0 : (decide (k < -(2 ^ 63)) || decide (k ≥ 2 ^ 63)) = false := by rw [Bool.or_eq_false_iff]; exact ⟨decide_eq_false (by omega), decide_eq_false (by omega)⟩
    have d1 : ([u0].toArray.isEmpty || k == 1) = false := beq_eq_false_iff_ne.mpr h1
    have d2 : (decide (k ≤ 0) || [u0].toArray.isEmpty) = false := by rw [Bool.or_eq_false_iff]; exact ⟨decide_eq_false (by omega), rfl⟩
    have d3 : ¬ (([u0].toArray.size : Nat) : Int) * k > (2 ^ 63 - 1) / 8 := by show ¬ (1 : Int) * k > _; omega
    have d4 : Builtin.Tuple.tupleTooMany ((([u0].toArray.size : Nat) : Int) * k) = false := by
      unfold Builtin.Tuple.tupleTooMany
      exact decide_eq_false (by rw [sizeLine_eq]; show ¬ _ < (1 : Int) * k; omega)
    have d5 : (List.replicate k.toNat [u0]).flatten.length ≤ sizeLine := by rw [flat_one, List.length_replicate]; exact small16 (by omega)
    refine call_meets F.slot_tuple_mul ⟨_, ho, rfl⟩ F.entry_tuple_mul (F.args_tuple_mul_2 _ _) (tuple_mulW l [u0].toArray n dd sl k t d0 d1 d2 d3 d4 (by rw [size_rep, List.size_toArray]; exact d5)) ⟨ho, ?_⟩
    rw [size_rep, flat_one]
    refine ⟨.ref st.heap.objs.size, upd HH st.heap.objs.size (.frz { cls := .type "tuple", data := .seq (List.replicate k.toNat u0).toArray } (.tup (List.replicate k.toNat e))), ?_, rfl, qq _ _ (Evl.Ex.new (JJ.hok.fresh (Nat.le_refl _))) ⟨_, upd_same, rfl, rfl⟩⟩
    refine JJ.laid (t' := st.toks) (fun b o2 e2 => Heap.get?_push_of_some _ e2) (Nat.le_refl _) ⟨Heap.get?_push_size _ rfl, by rw [List.length_replicate]; exact small16 (by omega), List.replicate k.toNat u0, ?_, IsTup.new _ _⟩
    have := r.rep k.toNat
    rw [flat_one, flat_one] at this
    exact this
/-- one behind the other, the second one not empty -/
def rCatQ (K : PySem.W.Frag) : R2 := fun x y H Q => ∃ a b xs ys, x = .ref a ∧ y = .ref b ∧ PT H a xs ∧ PT H b ys ∧ xs.length + ys.length ≤ 100000 ∧ ys ≠ [] ∧ ∀ c H', Ex H H' → PT H' c (xs ++ ys) → Q (.ref c) H'
theorem op_catQ : OpR X (binaryOp .Add) (rCatQ X.K) := by
  intro pp st sg HH x y v u QQ JJ rx ry h
  obtain ⟨a, b, xs, ys, rfl, rfl, ha, hb, hz, hy, qq⟩ := h
  by_cases hx : xs = []
  · subst hx
    exact op_catA pp st sg HH _ _ v u QQ JJ rx ry ⟨a, b, [], ys, rfl, rfl, ha.sq, hb.sq, small16 hz, fun _ => qq b HH (Evl.Ex.refl HH) hb, fun h => absurd rfl h, fun h => absurd rfl h⟩
  · exact op_catP pp st sg HH _ _ v u QQ JJ rx ry ⟨a, b, xs, ys, rfl, rfl, ha.sq, hb.sq, small16 hz, hx, hy, fun c ob hc e1 e2 => qq c _ (Evl.Ex.new hc) ⟨ob, upd_same, e1, e2⟩⟩
end
section
variable {K : PySem.W.Frag} {H : Hp}
/-- sorted(set(t)) of a tuple of ints -/
theorem sorted_set_tup {w : World} {D : Addr} {ns : List Int} {Q : VK} (hD : SqT K H D (ns.map L2.V.int)) (hz : ns.length ≤ 1000)
    (q : ∀ (kn : List Int) kp H', Ex H H' → H' kp = some (.lst (kn.map L2.V.int)) → kn.length ≤ ns.length → Q (.ref kp) H') :
    rSetTI K w [.ref D] H fun y H1 => rSortedSetB w [y] H1 Q := by
  refine ⟨D, ns, rfl, hD, hz, fun sp c hsp hc => ?_⟩
  have Y1 := Evl.Ex.new (o := SetO w sp (fun j => decide (j ∈ ns)) c) hsp
  refine ⟨sp, _, c, rfl, upd_same, by omega, fun kn kp hpw hm hkl hkp => ?_⟩
  exact q kn kp _ (Y1.trans (Evl.Ex.new hkp)) upd_same (by omega)
end
end Sx

set_option Elab.async false
set_option linter.all false
namespace Sx
/-! ### numbers of span rows: ways to go on, ranks -/
def wysF (f : Nat → Nat) : Nat → Nat
  | 0 => f 1
  | r + 1 => wysF f r + f (r + 2)
/-- the ways to put l more entries behind a row with r roots -/
def wys : Nat → Nat → Nat
  | 0 => fun _ => 1
  | l + 1 => wysF (wys l)
theorem cnt_zero (r : Nat) : wys 0 r = 1 := rfl
theorem cnt_s0 (l : Nat) : wys (l + 1) 0 = wys l 1 := rfl
theorem cnt_ss (l r : Nat) : wys (l + 1) (r + 1) = wys (l + 1) r + wys l (r + 2) := rfl
/-- the ways with less than p of m roots covered -/
def addN (l m : Nat) : Nat → Nat
  | 0 => 0
  | p + 1 => addN l m p + wys l (m - p + 1)
theorem addN_shift (l m : Nat) : ∀ p, addN l (m + 1) (p + 1) = wys l (m + 2) + addN l m p
  | 0 => by show 0 + wys l (m + 1 - 0 + 1) = wys l (m + 2) + 0; rw [Nat.zero_add, Nat.sub_zero]; rfl
  | p + 1 => by
    show addN l (m + 1) (p + 1) + wys l (m + 1 - (p + 1) + 1) = wys l (m + 2) + (addN l m p + wys l (m - p + 1))
    rw [addN_shift l m p, show m + 1 - (p + 1) = m - p by omega]
    omega
theorem cnt_all (l : Nat) : ∀ m, wys (l + 1) m = addN l m (m + 1)
  | 0 => by rw [cnt_s0]; show wys l 1 = 0 + wys l (0 - 0 + 1); rw [Nat.zero_add]
  | m + 1 => by rw [cnt_ss, cnt_all l m, addN_shift]; omega
theorem addN_mono {l m p q : Nat} (h : p ≤ q) : addN l m p ≤ addN l m q := by
  induction h with
  | refl => exact Nat.le_refl _
  | step _ ih => exact Nat.le_trans ih (Nat.le_add_right _ _)
theorem cnt_pos : ∀ l r, 1 ≤ wys l r
  | 0, _ => Nat.le_refl _
  | l + 1, 0 => cnt_pos l 1
  | l + 1, r + 1 => Nat.le_trans (cnt_pos l (r + 2)) (Nat.le_add_left _ _)
/-- es behind roots ts has the number r -/
inductive Rk : List Int → List Int → Nat → Prop
  | nil {ts : List Int} : Rk ts [] 0
  | cons {ts es : List Int} {e : Int} {k r : Nat} (hk : k ≤ ts.length) (he : e = 1 + (ts.drop k).sum) (h : Rk (ts.take k ++ [e]) es r) : Rk ts (e :: es) (addN es.length ts.length (ts.length - k) + r)
theorem take_push_len {ts : List Int} {k : Nat} (hk : k ≤ ts.length) (e : Int) : (ts.take k ++ [e]).length = k + 1 := by
  rw [List.length_append, List.length_take]; simp only [List.length_cons, List.length_nil]; omega
theorem Rk.lt {ts es : List Int} {r : Nat} (h : Rk ts es r) : r < wys es.length ts.length := by
  induction h with
  | nil => exact Nat.lt_succ_self 0
  | @cons ts es e k r hk he h ih =>
    rw [take_push_len hk] at ih
    rw [List.length_cons, cnt_all]
    have h1 : addN es.length ts.length (ts.length - k + 1) = addN es.length ts.length (ts.length - k) + wys es.length (ts.length - (ts.length - k) + 1) := rfl
    rw [show ts.length - (ts.length - k) = k by omega] at h1
    have h2 : addN es.length ts.length (ts.length - k + 1) ≤ addN es.length ts.length (ts.length + 1) := addN_mono (by omega)
    omega
theorem drop_sum_lt {ts : List Int} (hp : ∀ t ∈ ts, 1 ≤ t) {k j : Nat} (hj : j ≤ ts.length) (h : k < j) : (ts.drop j).sum < (ts.drop k).sum := by
  have e1 : ts.drop k = (ts.drop k).take (j - k) ++ ts.drop j := by
    have := List.take_append_drop (j - k) (ts.drop k)
    rw [List.drop_drop, show k + (j - k) = j by omega] at this
    exact this.symm
  have h1 := len_le_sum (l := (ts.drop k).take (j - k)) fun t ht => hp t (List.mem_of_mem_drop (List.mem_of_mem_take ht))
  rw [List.length_take, List.length_drop] at h1
  have h2 : (ts.drop k).sum = ((ts.drop k).take (j - k)).sum + (ts.drop j).sum := by
    conv => lhs; rw [e1]
    rw [List.sum_append]
  omega
theorem drop_sum_inj {ts : List Int} (hp : ∀ t ∈ ts, 1 ≤ t) {k j : Nat} (hk : k ≤ ts.length) (hj : j ≤ ts.length) (h : (ts.drop k).sum = (ts.drop j).sum) : k = j := by
  rcases Nat.lt_trichotomy k j with c | c | c
  · have := drop_sum_lt hp hj c; omega
  · exact c
  · have := drop_sum_lt hp hk c; omega
theorem push_pos {ts : List Int} (hp : ∀ t ∈ ts, 1 ≤ t) {k : Nat} {e : Int} (he : e = 1 + (ts.drop k).sum) : ∀ t ∈ ts.take k ++ [e], 1 ≤ t := fun t h => by
  rcases List.mem_append.mp h with h | h
  · exact hp t (List.mem_of_mem_take h)
  · rw [List.mem_singleton] at h
    have := sum_nonneg (l := ts.drop k) fun t ht => hp t (List.mem_of_mem_drop ht)
    omega
theorem Rk.fn {ts es : List Int} {r s : Nat} (h : Rk ts es r) (hp : ∀ t ∈ ts, 1 ≤ t) (h2 : Rk ts es s) : r = s := by
  induction h generalizing s with
  | nil => cases h2; rfl
  | @cons ts es e k r hk he h ih =>
    cases h2 with
    | @cons _ _ _ k' r' hk' he' h' =>
      have : k = k' := drop_sum_inj hp hk hk' (by omega)
      subst this
      rw [ih (push_pos hp he) h']
/-- which of two lists of one length comes first -/
def lexI : List Int → List Int → Bool
  | [], [] => false
  | [], _ :: _ => true
  | _ :: _, [] => false
  | x :: xs, y :: ys => if x = y then lexI xs ys else decide (x < y)
theorem Rk.order {ts es fs : List Int} {r s : Nat} (h : Rk ts es r) (hp : ∀ t ∈ ts, 1 ≤ t) (h2 : Rk ts fs s) (hl : es.length = fs.length) :
    (lexI es fs = true ↔ r < s) ∧ (es = fs ↔ r = s) := by
  induction h generalizing fs s with
  | nil =>
    cases h2 with
    | nil => exact ⟨⟨(fun h => nomatch h), fun h => (Nat.lt_irrefl _ h).elim⟩, Iff.intro (fun _ => rfl) (fun _ => rfl)⟩
    | cons _ _ _ => exact nomatch hl
  | @cons ts es e k r hk he h ih =>
    cases h2 with
    | nil => exact nomatch hl
    | @cons _ fs f k' s hk' hf h' =>
      replace hl : es.length = fs.length := Nat.succ.inj hl
      by_cases c : k = k'
      · subst c
        have ef : e = f := by omega
        subst ef
        obtain ⟨i1, i2⟩ := ih (push_pos hp he) h' hl
        rw [← hl]
        refine ⟨?_, ?_⟩
        · show (if e = e then lexI es fs else _) = true ↔ _
          rw [if_pos rfl]
          exact i1.trans ⟨fun h => by omega, fun h => by omega⟩
        · refine ⟨fun h => ?_, fun h => ?_⟩
          · rw [i2.mp (List.cons.inj h).2]
          · rw [i2.mpr (by omega)]
      · have l1 := h.lt
        have l2 := h'.lt
        rw [take_push_len hk] at l1
        rw [take_push_len hk'] at l2
        have ne : e ≠ f := fun z => c (drop_sum_inj hp hk hk' (by omega))
        have u1 : addN es.length ts.length (ts.length - k + 1) = addN es.length ts.length (ts.length - k) + wys es.length (ts.length - (ts.length - k) + 1) := rfl
        have u2 : addN es.length ts.length (ts.length - k' + 1) = addN es.length ts.length (ts.length - k') + wys es.length (ts.length - (ts.length - k') + 1) := rfl
        rw [show ts.length - (ts.length - k) = k by omega] at u1
        rw [show ts.length - (ts.length - k') = k' by omega] at u2
        rw [← hl] at l2 ⊢
        refine ⟨?_, fun z => (ne (List.cons.inj z).1).elim, fun z => ?_⟩
        · show (if e = f then _ else decide (e < f)) = true ↔ _
          rw [if_neg ne, decide_eq_true_iff]
          rcases Nat.lt_or_gt_of_ne c with d | d
          · have m1 : addN es.length ts.length (ts.length - k' + 1) ≤ addN es.length ts.length (ts.length - k) := addN_mono (by omega)
            have := drop_sum_lt hp hk' d
            exact ⟨fun _ => by omega, fun _ => by omega⟩
          · have m1 : addN es.length ts.length (ts.length - k + 1) ≤ addN es.length ts.length (ts.length - k') := addN_mono (by omega)
            have := drop_sum_lt hp hk d
            exact ⟨fun _ => by omega, fun _ => by omega⟩
        · exfalso
          rcases Nat.lt_or_gt_of_ne c with d | d
          · have m1 : addN es.length ts.length (ts.length - k' + 1) ≤ addN es.length ts.length (ts.length - k) := addN_mono (by omega)
            omega
          · have m1 : addN es.length ts.length (ts.length - k + 1) ≤ addN es.length ts.length (ts.length - k') := addN_mono (by omega)
            omega
/-- the roots, each with its own entry at its last place -/
structure Gr (xs ts : List Int) : Prop extends Gro xs ts where
  top : ∀ k, k < ts.length → ∀ j : Nat, (j : Int) + 1 = (ts.take (k + 1)).sum → g xs j = g ts k
theorem Gr.nil : Gr [] [] := { Gro.nil with top := fun k h => (Nat.not_lt_zero k h).elim }
theorem g_takeL {ts : List Int} {k i : Nat} (h : i < k) : g (ts.take k) i = g ts i := by
  unfold g
  rw [List.getD_eq_getElem?_getD, List.getElem?_take, if_pos h, List.getD_eq_getElem?_getD]
theorem take_succ_sum {ts : List Int} {k : Nat} (h : k < ts.length) : (ts.take (k + 1)).sum = (ts.take k).sum + g ts k := by
  rw [List.take_add_one, g_get h, List.sum_append]
  show _ + (g ts k + 0) = _
  rw [Int.add_zero]
theorem take_sum_mono {ts : List Int} (hp : ∀ t ∈ ts, 1 ≤ t) {k j : Nat} (h : k ≤ j) : (ts.take k).sum ≤ (ts.take j).sum := by
  have e3 : ts.take j = ts.take k ++ (ts.take j).drop k := by
    have := List.take_append_drop k (ts.take j)
    rw [List.take_take, Nat.min_eq_left h] at this
    exact this.symm
  have n3 := sum_nonneg (l := (ts.take j).drop k) fun t h => hp t (List.mem_of_mem_take (List.mem_of_mem_drop h))
  rw [e3, List.sum_append]
  omega
theorem Gr.grow {xs ts : List Int} (G : Gr xs ts) {k : Nat} (hk : k ≤ ts.length) {e : Int} (he : e = 1 + (ts.drop k).sum) : Gr (xs ++ [e]) (ts.take k ++ [e]) := by
  refine { G.toGro.grow hk he with top := fun m hm j hj => ?_ }
  have hS2 : (ts.take k).sum + (ts.drop k).sum = xs.length := by
    rw [← List.sum_append, List.take_append_drop]; exact G.sum
  rw [take_push_len hk] at hm
  by_cases c : m < k
  · have hlt : (ts.take k).length = k := by rw [List.length_take]; omega
    have e1 : (ts.take k ++ [e]).take (m + 1) = ts.take (m + 1) := by
      rw [List.take_append_of_le_length (by omega), List.take_take, Nat.min_eq_left (by omega)]
    rw [e1] at hj
    have m1 := take_sum_mono G.pos (show m + 1 ≤ k by omega)
    have n1 := sum_nonneg (l := ts.drop k) fun t ht => G.pos t (List.mem_of_mem_drop ht)
    rw [g_app (by omega), G.top m (by omega) j hj, g_app (by omega), g_takeL c]
  · have hm : m = k := by omega
    subst hm
    have hlt : (ts.take m).length = m := by rw [List.length_take]; omega
    have e1 : (ts.take m ++ [e]).take (m + 1) = ts.take m ++ [e] := List.take_of_length_le (by rw [take_push_len hk]; exact Nat.le_refl _)
    rw [e1, List.sum_append] at hj
    have : ([e] : List Int).sum = e := by show e + 0 = e; omega
    have hj2 : j = xs.length := by omega
    subst hj2
    rw [g_last]
    have := g_last (xs := ts.take m) (e := e)
    rw [hlt] at this
    exact this.symm
theorem Rk.gro {ts es : List Int} {r : Nat} (h : Rk ts es r) {ys : List Int} (G : Gr ys ts) : ∃ us, Gr (ys ++ es) us := by
  induction h generalizing ys with
  | nil => exact ⟨_, by rw [List.append_nil]; exact G⟩
  | @cons ts es e k r hk he h ih =>
    obtain ⟨us, hu⟩ := ih (G.grow hk he)
    rw [List.append_assoc] at hu
    exact ⟨us, hu⟩
theorem Rk.lam {es : List Int} {r : Nat} (h : Rk [] es r) : Lam es := by
  obtain ⟨us, hu⟩ := h.gro Gr.nil
  exact hu.lam
/-- an entry of a span row covers whole roots -/
theorem Gr.pops {ys ts : List Int} (G : Gr ys ts) {e : Int} (L : Lam (ys ++ [e])) : ∃ k, k ≤ ts.length ∧ e = 1 + (ts.drop k).sum := by
  have hl : (ys ++ [e]).length = ys.length + 1 := by rw [List.length_append]; rfl
  have b1 := L.lo ys.length (by omega)
  have b2 := L.hi ys.length (by omega)
  rw [g_last] at b1 b2
  have hfe : fc (ys ++ [e]) ys.length = (ys.length : Int) - e + 1 := by unfold fc; rw [g_last]
  have main : ∀ m, m ≤ ts.length → (∃ k, k ≤ ts.length ∧ e = 1 + (ts.drop k).sum) ∨ (ts.drop (ts.length - m)).sum < e - 1 := by
    intro m
    induction m with
    | zero =>
      intro _
      by_cases c : e = 1
      · exact .inl ⟨ts.length, Nat.le_refl _, by rw [List.drop_length]; exact c⟩
      · right
        rw [Nat.sub_zero, List.drop_length]
        show (0 : Int) < e - 1
        omega
    | succ m ih =>
      intro hm
      rcases ih (by omega) with h | h
      · exact .inl h
      · obtain ⟨k, hk⟩ : ∃ k, k = ts.length - (m + 1) := ⟨_, rfl⟩
        have hk1 : k < ts.length := by omega
        rw [show ts.length - m = k + 1 by omega] at h
        have hS : (ts.take (k + 1)).sum + (ts.drop (k + 1)).sum = ys.length := by
          rw [← List.sum_append, List.take_append_drop]; exact G.sum
        have hS2 : (ts.take k).sum + (ts.drop k).sum = ys.length := by
          rw [← List.sum_append, List.take_append_drop]; exact G.sum
        have n0 := sum_nonneg (l := ts.take k) fun t ht => G.pos t (List.mem_of_mem_take ht)
        have n2 := sum_nonneg (l := ts.drop (k + 1)) fun t ht => G.pos t (List.mem_of_mem_drop ht)
        have hts := take_succ_sum hk1
        have hgp : 1 ≤ g ts k := G.pos _ (List.mem_of_getElem? (g_get hk1))
        rw [← hk]
        by_cases c : e = 1 + (ts.drop k).sum
        · exact .inl ⟨k, by omega, c⟩
        · by_cases c2 : (ts.drop k).sum < e - 1
          · exact .inr c2
          · exfalso
            obtain ⟨j, hj⟩ : ∃ j : Nat, (j : Int) = (ts.take (k + 1)).sum - 1 := ⟨((ts.take (k + 1)).sum - 1).toNat, by omega⟩
            have hj1 : j < ys.length := by omega
            have ht := G.top k hk1 j (by omega)
            have hn := L.nest ys.length j (by omega) (by rw [hfe]; omega) hj1
            rw [hfe] at hn
            unfold fc at hn
            rw [g_app hj1, ht] at hn
            omega
  rcases main ts.length (Nat.le_refl _) with h | h
  · exact h
  · rw [Nat.sub_self, List.drop_zero, G.sum] at h
    omega
theorem Lam.front {xs ys : List Int} (L : Lam (xs ++ ys)) : Lam xs := by
  have hg : ∀ i, i < xs.length → g (xs ++ ys) i = g xs i := fun i h => by
    unfold g
    rw [List.getD_eq_getElem?_getD, List.getElem?_append_left h, List.getD_eq_getElem?_getD]
  have hfc : ∀ i, i < xs.length → fc (xs ++ ys) i = fc xs i := fun i h => by unfold fc; rw [hg i h]
  have hl : (xs ++ ys).length = xs.length + ys.length := List.length_append
  refine ⟨fun p hp => ?_, fun p hp => ?_, fun p j hp h1 h2 => ?_⟩
  · rw [← hg p hp]; exact L.lo p (by omega)
  · rw [← hg p hp]; exact L.hi p (by omega)
  · rw [← hfc p hp] at h1 ⊢
    rw [← hfc j (by omega)]
    exact L.nest p j (by omega) h1 h2
theorem Gr.rank : ∀ {es ys ts : List Int}, Gr ys ts → Lam (ys ++ es) → ∃ r, Rk ts es r
  | [], _, _, _, _ => ⟨0, .nil⟩
  | e :: es, ys, ts, G, L => by
    have e1 : ys ++ e :: es = (ys ++ [e]) ++ es := by rw [List.append_assoc]; rfl
    rw [e1] at L
    obtain ⟨k, hk, he⟩ := G.pops L.front
    obtain ⟨r, h⟩ := (G.grow hk he).rank L
    exact ⟨_, .cons hk he h⟩
/-- the number of a span row -/
theorem rank_ex {xs : List Int} (L : Lam xs) : ∃ r, Rk [] xs r := Gr.nil.rank L
theorem rank_first (n : Nat) : ∀ ts : List Int, Rk ts (List.replicate n 1) 0 := by
  induction n with
  | zero => exact fun ts => .nil
  | succ n ih =>
    intro ts
    have := Rk.cons (Nat.le_refl ts.length) (show (1 : Int) = 1 + (ts.drop ts.length).sum by rw [List.drop_length]; rfl) (ih (ts.take ts.length ++ [1]))
    rw [Nat.sub_self] at this
    exact this
theorem rank_last : ∀ (n : Nat) (ts : List Int), ∃ r, Rk ts ((List.range n).map fun i : Nat => ts.sum + 1 + (i : Int)) r ∧ r + 1 = wys n ts.length
  | 0, ts => ⟨0, .nil, rfl⟩
  | n + 1, ts => by
    obtain ⟨r, h1, h2⟩ := rank_last n [1 + ts.sum]
    have e : (List.range (n + 1)).map (fun i : Nat => ts.sum + 1 + (i : Int)) = (1 + ts.sum) :: (List.range n).map fun i : Nat => ([1 + ts.sum] : List Int).sum + 1 + (i : Int) := by
      rw [List.range_succ_eq_map, List.map_cons, List.map_map]
      refine congr (congrArg List.cons (by show ts.sum + 1 + ((0 : Nat) : Int) = _; omega)) (List.map_congr_left fun i _ => ?_)
      show ts.sum + 1 + ((i + 1 : Nat) : Int) = (1 + ts.sum + 0) + 1 + (i : Int)
      omega
    rw [e]
    refine ⟨_, Rk.cons (k := 0) (Nat.zero_le _) rfl h1, ?_⟩
    rw [List.length_map, List.length_range, cnt_all, Nat.sub_zero]
    show _ = addN n ts.length ts.length + wys n (ts.length - ts.length + 1)
    rw [Nat.sub_self]
    show _ + 1 = _ + wys n (0 + 1)
    have : wys n ([1 + ts.sum] : List Int).length = wys n (0 + 1) := rfl
    omega
/-! ### the ballot numbers -/
def bn : Nat → Nat → Nat
  | _, 0 => 1
  | 0, _ + 1 => 0
  | n + 1, k + 1 => bn n k + bn n (k + 1)
theorem bn_zero (n : Nat) : bn n 0 = 1 := by cases n <;> rfl
theorem bn_ss (n k : Nat) : bn (n + 1) (k + 1) = bn n k + bn n (k + 1) := rfl
theorem bn_big : ∀ {n k : Nat}, n < k → bn n k = 0
  | 0, k + 1, _ => rfl
  | n + 1, k + 1, h => by rw [bn_ss, bn_big (by omega), bn_big (by omega)]
theorem bn_self : ∀ n, bn n n = 1
  | 0 => rfl
  | n + 1 => by rw [bn_ss, bn_self n, bn_big (Nat.lt_succ_self n)]
theorem bn_le : ∀ n k, bn n k ≤ 2 ^ n
  | 0, 0 => Nat.le_refl _
  | 0, _ + 1 => Nat.zero_le _
  | n + 1, 0 => by rw [bn_zero]; exact Nat.one_le_two_pow
  | n + 1, k + 1 => by
    rw [bn_ss, Nat.pow_succ]
    have h1 := bn_le n k
    have h2 := bn_le n (k + 1)
    omega
/-- (k + 1) C(n + 1, k + 1) = (n + 1) C(n, k) -/
theorem bn_absorb : ∀ n k, bn (n + 1) (k + 1) * (k + 1) = bn n k * (n + 1)
  | 0, 0 => rfl
  | 0, k + 1 => by rw [bn_ss]; show (0 + 0) * _ = 0 * _; rw [Nat.zero_mul, Nat.zero_mul]
  | n + 1, 0 => by
    have h := bn_absorb n 0
    rw [bn_ss, bn_zero] at h ⊢
    rw [bn_ss, bn_zero]
    have e : bn (n + 1) (0 + 1) = 1 + bn n (0 + 1) := by rw [bn_ss, bn_zero]
    omega
  | n + 1, k + 1 => by
    have h1 := bn_absorb n k
    have h2 := bn_absorb n (k + 1)
    rw [bn_ss (n + 1) (k + 1), Nat.add_mul, h2]
    rw [show k + 1 + 1 = (k + 1) + 1 from rfl, Nat.mul_add (bn (n + 1) (k + 1)), h1, Nat.mul_one, bn_ss n k]
    rw [Nat.mul_add, Nat.mul_add, Nat.mul_add, Nat.add_mul, Nat.add_mul]
    simp only [Nat.mul_one, Nat.mul_add, Nat.add_mul]
    omega
/-- C(n, k + 1) (k + 1) = C(n, k) (n - k) -/
theorem bn_next (n k : Nat) (h : k ≤ n) : bn n (k + 1) * (k + 1) = bn n k * (n - k) := by
  have h1 := bn_absorb n k
  rw [bn_ss, Nat.add_mul] at h1
  obtain ⟨d, rfl⟩ : ∃ d, n = k + d := ⟨n - k, by omega⟩
  rw [show k + d + 1 = (k + 1) + d by omega, Nat.mul_add (bn (k + d) k) (k + 1) d] at h1
  rw [show k + d - k = d by omega]
  omega
theorem cnt_bn : ∀ l r, wys l r + (if l = 0 then 0 else bn (2 * l + r) (l - 1)) = bn (2 * l + r) l
  | 0, r => by rw [if_pos rfl, cnt_zero, bn_zero]
  | l + 1, 0 => by
    have h := cnt_bn l 1
    rw [if_neg (Nat.succ_ne_zero l), cnt_s0, Nat.add_sub_cancel]
    have e : 2 * (l + 1) + 0 = (2 * l + 1) + 1 := by omega
    rw [e, bn_ss]
    have sym := bn_next (2 * l + 1) l (by omega)
    rw [show 2 * l + 1 - l = l + 1 by omega] at sym
    have sym := Nat.eq_of_mul_eq_mul_right (Nat.succ_pos l) sym
    cases l with
    | zero => rw [cnt_zero, bn_zero, bn_zero, sym, bn_zero]
    | succ l =>
      rw [if_neg (Nat.succ_ne_zero l), Nat.add_sub_cancel] at h
      rw [bn_ss (2 * (l + 1) + 1) l]
      omega
  | l + 1, r + 1 => by
    have h1 := cnt_bn (l + 1) r
    have h2 := cnt_bn l (r + 2)
    rw [if_neg (Nat.succ_ne_zero l), Nat.add_sub_cancel] at h1 ⊢
    rw [cnt_ss]
    have e : 2 * (l + 1) + (r + 1) = (2 * (l + 1) + r) + 1 := by omega
    have e2 : 2 * l + (r + 2) = 2 * (l + 1) + r := by omega
    rw [e2] at h2
    rw [e, bn_ss]
    cases l with
    | zero =>
      rw [if_pos rfl] at h2
      rw [bn_zero] at h1 h2 ⊢
      rw [bn_zero]
      omega
    | succ l =>
      rw [if_neg (Nat.succ_ne_zero l), Nat.add_sub_cancel] at h2
      rw [bn_ss _ l]
      omega
/-- the law's formula -/
theorem ballot (l r : Nat) : bn (2 * l + r) l * (r + 1) = wys l r * (r + l + 1) := by
  have h := cnt_bn l r
  cases l with
  | zero => rw [if_pos rfl, bn_zero] at h; rw [bn_zero, show wys 0 r = 1 from rfl]
  | succ l =>
    rw [if_neg (Nat.succ_ne_zero l), Nat.add_sub_cancel] at h
    have hn := bn_next (2 * (l + 1) + r) l (by omega)
    rw [show 2 * (l + 1) + r - l = r + (l + 1) + 1 by omega] at hn
    generalize bn (2 * (l + 1) + r) (l + 1) = A at h hn ⊢
    generalize bn (2 * (l + 1) + r) l = B at h hn ⊢
    rw [← h, Nat.add_mul] at hn ⊢
    have e1 : wys (l + 1) r * (r + (l + 1) + 1) = wys (l + 1) r * (r + 1) + wys (l + 1) r * (l + 1) := by rw [← Nat.mul_add]; congr 1 <;> omega
    have e2 : B * (r + (l + 1) + 1) = B * (r + 1) + B * (l + 1) := by rw [← Nat.mul_add]; congr 1 <;> omega
    rw [e2] at hn
    rw [e1]
    omega
theorem cnt_le (l r : Nat) : wys l r ≤ 2 ^ (2 * l + r) := Nat.le_trans (by have := cnt_bn l r; omega) (bn_le _ l)
end Sx

set_option Elab.async false
set_option linter.all false
set_option maxRecDepth 100000
namespace Sx
open PySem PySem.Spec
open PyProof.Rows L2
/-! ### brackets -/
theorem op_mulStr {X : Cx} : OpR X (binaryOp .Mult) (fun x y H Q => ∃ a n, x = .str a ∧ y = .int n ∧ MulOk a n ∧ Q (.str (Txt.mul a n)) H) := by
  intro pins s σ H x y v u Q I rx ry h
  obtain ⟨i, j, rfl, rfl, hz, q⟩ := h
  obtain ⟨t, rfl⟩ := rx
  obtain ⟨t', rfl⟩ := ry
  exact SB.mul hz (fun t' tk => ⟨.str (Txt.mul i j), H, I.tok _, ⟨_, rfl⟩, q⟩)
/-- xs[i] ahead of xs[i] += .. -/
theorem get_list {X : Cx} : PGet X (fun x y H Q => ∃ p xs, ∃ i : Nat, ∃ v, x = .ref p ∧ y = .int (i : Int) ∧ SqL X.K H p xs ∧ xs[i]? = some v ∧ Q v H) := by
  intro pins s σ H x y v u Q I rx ry h
  obtain ⟨p, xs, i, z, rfl, rfl, hq, he, q⟩ := h
  cases rx
  obtain ⟨t, rfl⟩ := ry
  obtain ⟨its, r, pl, hz⟩ := I.list hq
  obtain ⟨w, ew, rw'⟩ := r.get he
  have hn := line63
  have hl := r.length
  have hi := (List.getElem?_eq_some_iff.mp he).1
  exact wpAny_getItem_list pl.isList (by omega) (by omega) (by rw [Int.toNat_natCast]; simpa using ew) ⟨z, H, I, rw', q⟩
theorem paren_cps : (Str.ofString "(") = ⟨#[40]⟩ ∧ (Str.ofString ")") = ⟨#[41]⟩ := by constructor <;> decide +kernel
theorem mul_ok (m : Nat) (h : m ≤ 1000) : MulOk (Str.ofString "(") (m : Int) := by
  rw [paren_cps.1]
  refine ⟨by simp; omega, fun h1 h2 => ?_, fun h1 h2 => ?_⟩
  · show ¬ ((1 : Nat) : Int) > (2 ^ 63 - 1) / (m : Int)
    have : (1 : Int) ≤ (2 ^ 63 - 1) / (m : Int) := Int.le_ediv_of_mul_le (by omega) (by omega)
    omega
  · show Builtin.Str.tooLong (1 * (m : Int).toNat) = false
    unfold Builtin.Str.tooLong
    simp
    exact Nat.le_trans h (by decide)
theorem foldl_rep (c : Nat) : ∀ (m : Nat) (acc : Array Nat), ((List.replicate m #[c]).foldl (· ++ ·) acc) = acc ++ (List.replicate m c).toArray
  | 0, acc => by simp
  | m + 1, acc => by
    rw [List.replicate_succ, List.foldl_cons, foldl_rep c m, List.replicate_succ]
    apply Array.ext'
    simp
theorem mul_cps (m : Nat) : Txt.mul (Str.ofString "(") (m : Int) = ⟨(List.replicate m 40).toArray⟩ := by
  rw [paren_cps.1]
  unfold Txt.mul
  by_cases h1 : (m : Int) < 1
  · have : m = 0 := by omega
    subst this
    rfl
  · rw [if_neg h1]
    by_cases h2 : m = 1
    · subst h2; rfl
    · rw [if_neg (by simp [Str.length]; omega)]
      show (⟨(List.replicate (m : Int).toNat #[40]).foldl (· ++ ·) #[]⟩ : Str) = _
      rw [foldl_rep, Int.toNat_natCast]
      simp
theorem glue_cps : ∀ (ys : List Str) (acc : Array Nat), (ys.foldl (fun acc p => acc ++ (#[] : Array Nat) ++ p.cps) acc) = acc ++ (ys.flatMap fun y => y.cps.toList).toArray
  | [], acc => by simp
  | y :: ys, acc => by
    rw [List.foldl_cons, glue_cps ys]
    apply Array.ext'
    simp
theorem join_cps (ys : List Str) : Txt.join (Str.ofString "") ys = ⟨(ys.flatMap fun y => y.cps.toList).toArray⟩ := by
  have e : (Str.ofString "") = ⟨#[]⟩ := by decide +kernel
  rw [e]
  show Builtin.Str.glued ⟨#[]⟩ ys = _
  unfold Builtin.Str.glued
  cases ys with
  | nil => rfl
  | cons y ys =>
    show (⟨ys.foldl (fun acc p => acc ++ (#[] : Array Nat) ++ p.cps) y.cps⟩ : Str) = _
    rw [glue_cps]
    congr 1
    apply Array.ext'
    simp
/-- how many places begin what they cover at v, from place i on -/
def opn (xs : List Int) (i v : Nat) : Nat := ((List.range xs.length).filter fun j => decide (i ≤ j) && decide (fc xs j = (v : Int))).length
/-- the brackets as signs -/
def brkL (xs : List Int) : List Nat := (List.range xs.length).flatMap fun i => List.replicate (opn xs 0 i) 40 ++ [41]
def brk (xs : List Int) : Str := ⟨(brkL xs).toArray⟩
/-- the brackets read -/
def prs : List Nat → List Int → List Int → Option (List Int × List Int)
  | [], S, F => some (S, F)
  | c :: cs, S, F => if c = 40 then prs cs S (F ++ [(S.length : Int)]) else if c = 41 then (match F.getLast? with
      | some f => prs cs (S ++ [(S.length : Int) - f + 1]) F.dropLast
      | none => none) else none
theorem prs_open (cs : List Nat) (S : List Int) : ∀ (k : Nat) (F : List Int), prs (List.replicate k 40 ++ cs) S F = prs cs S (F ++ List.replicate k (S.length : Int))
  | 0, F => by simp
  | k + 1, F => by
    rw [List.replicate_succ, List.cons_append]
    show (if (40 : Nat) = 40 then prs (List.replicate k 40 ++ cs) S (F ++ [(S.length : Int)]) else _) = _
    rw [if_pos rfl, prs_open cs S k, List.append_assoc, List.replicate_succ]
    rfl
theorem prs_close (cs : List Nat) (S F : List Int) (f : Int) : prs (41 :: cs) S (F ++ [f]) = prs cs (S ++ [(S.length : Int) - f + 1]) F := by
  rw [prs.eq_def]
  simp
theorem opn_succ (xs : List Int) {i : Nat} (hi : i < xs.length) (v : Nat) : opn xs i v = opn xs (i + 1) v + (if fc xs i = (v : Int) then 1 else 0) := by
  unfold opn
  have main : ∀ n, i < n → ((List.range n).filter fun j => decide (i ≤ j) && decide (fc xs j = (v : Int))).length = ((List.range n).filter fun j => decide (i + 1 ≤ j) && decide (fc xs j = (v : Int))).length + (if fc xs i = (v : Int) then 1 else 0) := by
    intro n
    induction n with
    | zero => intro h; omega
    | succ n ih =>
      intro h
      rw [List.range_succ, List.filter_append, List.filter_append, List.length_append, List.length_append]
      by_cases c : i = n
      · subst c
        have e1 : (List.range i).filter (fun j => decide (i ≤ j) && decide (fc xs j = (v : Int))) = [] := List.filter_eq_nil_iff.mpr fun j hj => by
          have := List.mem_range.mp hj
          rw [decide_eq_false (by omega)]; simp
        have e2 : (List.range i).filter (fun j => decide (i + 1 ≤ j) && decide (fc xs j = (v : Int))) = [] := List.filter_eq_nil_iff.mpr fun j hj => by
          have := List.mem_range.mp hj
          rw [decide_eq_false (by omega)]; simp
        rw [e1, e2]
        by_cases d : fc xs i = (v : Int)
        · simp [d]
        · simp [d]
      · rw [ih (by omega)]
        have e3 : (decide (i ≤ n) && decide (fc xs n = (v : Int))) = (decide (i + 1 ≤ n) && decide (fc xs n = (v : Int))) := by
          rw [decide_eq_true (show i ≤ n by omega), decide_eq_true (show i + 1 ≤ n by omega)]
        have e4 : [n].filter (fun j => decide (i ≤ j) && decide (fc xs j = (v : Int))) = [n].filter (fun j => decide (i + 1 ≤ j) && decide (fc xs j = (v : Int))) := by
          rw [List.filter_cons, List.filter_cons, e3]; rfl
        rw [e4]
        omega
  exact main xs.length hi
theorem opn_end (xs : List Int) (v : Nat) : opn xs xs.length v = 0 := by
  unfold opn
  rw [List.filter_eq_nil_iff.mpr fun j hj => by
    have := List.mem_range.mp hj
    rw [decide_eq_false (by omega)]; simp]
  rfl
theorem opn_none {xs : List Int} {i v : Nat} (h : ∀ j, i ≤ j → j < xs.length → fc xs j ≠ (v : Int)) : opn xs i v = 0 := by
  unfold opn
  rw [List.filter_eq_nil_iff.mpr fun j hj => by
    have := List.mem_range.mp hj
    by_cases c : i ≤ j
    · rw [decide_eq_false (h j c this)]; simp
    · rw [decide_eq_false c]; simp]
  rfl
/-- what is open ahead of place i -/
def stk (xs : List Int) (i k : Nat) : List Int := (List.range k).flatMap fun v => List.replicate (opn xs i v) (v : Int)
theorem rep_pop (a b : Nat → Nat) (f : Nat) : ∀ n, f < n → (∀ v, v < n → v ≠ f → a v = b v) → a f = b f + 1 → (∀ v, f < v → v < n → a v = 0) →
    ((List.range n).flatMap fun v => List.replicate (a v) (v : Int)) = ((List.range n).flatMap fun v => List.replicate (b v) (v : Int)) ++ [(f : Int)]
  | 0, h, _, _, _ => (Nat.not_lt_zero _ h).elim
  | n + 1, h, h1, h2, h3 => by
    rw [List.range_succ, List.flatMap_append, List.flatMap_append]
    by_cases c : f = n
    · subst c
      have e : (List.range f).flatMap (fun v => List.replicate (a v) (v : Int)) = (List.range f).flatMap (fun v => List.replicate (b v) (v : Int)) := by
        rw [List.flatMap_def, List.flatMap_def]
        refine congrArg List.flatten (List.map_congr_left fun v hv => ?_)
        have := List.mem_range.mp hv
        rw [h1 v (by omega) (by omega)]
      rw [e, List.append_assoc]
      congr 1
      simp only [List.flatMap_cons, List.flatMap_nil, List.append_nil]
      rw [h2, List.replicate_succ']
    · rw [rep_pop a b f n (by omega) (fun v hv => h1 v (by omega)) h2 (fun v hv hv2 => h3 v hv (by omega)), List.append_assoc, List.append_assoc]
      congr 1
      have e1 := h3 n (by omega) (by omega)
      have e2 := h1 n (by omega) (by omega)
      rw [e1] at e2
      simp only [List.flatMap_cons, List.flatMap_nil, List.append_nil]
      rw [e1, ← e2]
      rfl
theorem brk_read {xs : List Int} (L : Lam xs) : ∀ m i, m + i = xs.length → prs ((List.range' i m).flatMap fun v => List.replicate (opn xs 0 v) 40 ++ [41]) (xs.take i) (stk xs i i) = some (xs, [])
  | 0, i, h => by
    have : i = xs.length := by omega
    subst this
    show some (xs.take xs.length, stk xs xs.length xs.length) = _
    have e : stk xs xs.length xs.length = [] := by
      unfold stk
      rw [List.flatMap_eq_nil_iff]
      intro v _
      rw [opn_end]; rfl
    rw [List.take_length, e]
  | m + 1, i, h => by
    have hi : i < xs.length := by omega
    have hlo := L.lo i hi
    have hhi := L.hi i hi
    obtain ⟨f, hf⟩ : ∃ f : Nat, fc xs i = (f : Int) := ⟨(fc xs i).toNat, by unfold fc; omega⟩
    have hfi : f ≤ i := by unfold fc at hf; omega
    have e0 : opn xs 0 i = opn xs i i := by
      have main : ∀ k, k ≤ i → opn xs 0 i = opn xs k i := by
        intro k
        induction k with
        | zero => intro _; rfl
        | succ k ih =>
          intro hk
          rw [ih (by omega), opn_succ xs (show k < xs.length by omega) i, if_neg, Nat.add_zero]
          have := L.lo k (by omega)
          unfold fc
          omega
      exact main i (Nat.le_refl i)
    have hS : ((xs.take i).length : Int) = (i : Int) := by rw [List.length_take]; omega
    rw [List.range'_succ, List.flatMap_cons, List.append_assoc, prs_open, hS, e0]
    have e1 : stk xs i i ++ List.replicate (opn xs i i) (i : Int) = stk xs i (i + 1) := by
      unfold stk
      rw [List.range_succ, List.flatMap_append]
      simp
    have e2 : stk xs i (i + 1) = stk xs (i + 1) (i + 1) ++ [(f : Int)] := by
      refine rep_pop _ _ f (i + 1) (by omega) (fun v hv hne => ?_) ?_ (fun v hv hv2 => ?_)
      · rw [opn_succ xs hi v, if_neg (by rw [hf]; omega)]; rfl
      · rw [opn_succ xs hi f, if_pos hf]
      · refine opn_none fun j hj hjn e => ?_
        rcases Nat.eq_or_lt_of_le hj with c | c
        · subst c; rw [hf] at e; omega
        · have := L.nest j i hjn (by omega) c
          omega
    rw [e1, e2, List.singleton_append, prs_close, hS]
    have e3 : xs.take i ++ [(i : Int) - (f : Int) + 1] = xs.take (i + 1) := by
      rw [List.take_add_one, g_get hi]
      have : g xs i = (i : Int) - (f : Int) + 1 := by unfold fc at hf; omega
      rw [this]; rfl
    rw [e3]
    exact brk_read L m (i + 1) (by omega)
theorem brk_back {xs : List Int} (L : Lam xs) : prs (brkL xs) [] [] = some (xs, []) := by
  have := brk_read L xs.length 0 rfl
  rw [← List.range_eq_range'] at this
  exact this
/-- a for walk over a text -/
theorem for_str {x : Str} {g : TG} {tb : TS} {D : Ends} {σ : L2.St} {H : Hp} (Pv : Nat → L2.St → Hp → Prop) (h0 : Pv 0 σ H)
    (hs : ∀ i c σ H, x.cps[i]? = some c → Pv i σ H → g (.str ⟨#[c]⟩) σ H fun σ2 H2 => tb { D with nx := Pv (i + 1), ct := Pv (i + 1), bk := D.nx } σ2 H2) (hd : ∀ σ H, Pv x.cps.size σ H → D.nx σ H) :
    ∃ W : Nat → Nat → L2.St → Hp → Prop, (∃ m, W 0 m σ H) ∧ ∀ i m σ H, W i m σ H →
      ((Its x).stop i H ∧ D.nx σ H) ∨ ((Its x).go i H ∧ ∃ N : L2.St → Hp → Prop, (∀ σ' H', N σ' H' → ∃ m', m' < m ∧ W (i + 1) m' σ' H') ∧ ∀ v H', (Its x).yld i H v H' → g v σ H' fun σ2 H2 => tb { D with nx := N, ct := N, bk := D.nx } σ2 H2) := by
  refine ⟨fun i m σ H => m = x.cps.size - i ∧ i ≤ x.cps.size ∧ Pv i σ H, ⟨x.cps.size, by simp, Nat.zero_le _, h0⟩, ?_⟩
  rintro i m σ H ⟨rfl, hi, p⟩
  by_cases hlt : i < x.cps.size
  · refine .inr ⟨hlt, Pv (i + 1), fun σ' H' p' => ⟨x.cps.size - (i + 1), by omega, rfl, hlt, p'⟩, fun v H' y => ?_⟩
    obtain ⟨rfl, c, hc, rfl⟩ := y
    exact hs i c σ _ hc p
  · have e : i = x.cps.size := by omega
    subst e
    exact .inl ⟨Nat.le_refl _, hd σ H p⟩
end Sx

set_option Elab.async false
set_option linter.all false
set_option maxRecDepth 100000
namespace Sx
open PySem PySem.Spec
open PyProof.Rows L2
/-- n! and the product of the lengths of the first k stretches -/
def fa : Nat → Nat
  | 0 => 1
  | n + 1 => fa n * (n + 1)
def lp (xs : List Int) : Nat → Nat
  | 0 => 1
  | k + 1 => lp xs k * (lst xs k - fc xs k + 1).toNat
def ords (xs : List Int) : Nat := fa xs.length / lp xs xs.length
theorem fa_fct : ∀ n, fa n = fct n
  | 0 => rfl
  | n + 1 => by show fa n * (n + 1) = (n + 1) * fct n; rw [fa_fct n, Nat.mul_comm]
theorem fa_le : ∀ n, n ≤ 100 → fa n ≤ 100 ^ n
  | 0, _ => Nat.le_refl _
  | n + 1, h => by
    show fa n * (n + 1) ≤ 100 ^ n * 100
    exact Nat.mul_le_mul (fa_le n (by omega)) (by omega)
theorem lp_pr {xs : List Int} (L : Lam xs) : ∀ k, k ≤ xs.length → lp xs k = prO (fun q => if (fun _ => true) q = true then lnO xs.length (wbO xs) q else 1) k
  | 0, _ => rfl
  | k + 1, h => by
    show lp xs k * (lst xs k - fc xs k + 1).toNat = prO _ k * (if true = true then lnO xs.length (wbO xs) k else 1)
    rw [lp_pr L k (by omega), if_pos rfl]
    have := lnO_eq L (q := k) (by omega)
    rw [← this, Int.toNat_natCast]
theorem ords_mul {xs : List Int} (L : Lam xs) : ordsN xs * lp xs xs.length = fa xs.length := by
  rw [lp_pr L _ (Nat.le_refl _), fa_fct]
  exact hookO (str8 L) xs.length (fun _ => true) DnO.full (cnO_full _)
theorem lp_pos {xs : List Int} (L : Lam xs) : ∀ k, k ≤ xs.length → 0 < lp xs k
  | 0, _ => Nat.one_pos
  | k + 1, h => by
    refine Nat.mul_pos (lp_pos L k (by omega)) ?_
    have f := fc_le L (q := k) (by omega)
    have l := lst_in (xs := xs) (i := k) (by omega)
    omega
theorem ords_eq {xs : List Int} (L : Lam xs) : ords xs = ordsN xs := by
  unfold ords
  rw [← ords_mul L, Nat.mul_div_cancel _ (lp_pos L _ (Nat.le_refl _))]
theorem ords_pos {xs : List Int} (L : Lam xs) : 0 < ords xs := by
  rw [ords_eq L]
  exact EO_pos (str8 L) DnO.full (cnO_full _)
theorem EO_le {xs : List Int} (L : Lam xs) {m : Nat} {u : Nat → Bool} (D : DnO xs.length (wbO xs) u) (hc : cnO xs.length u = m) (h : m ≤ 100) : EO xs.length (wbO xs) m u ≤ 100 ^ m := by
  have h1 := hookO (str8 L) m u D hc
  have h2 := puO_pos (str8 L) u
  have h3 := fa_le m h
  rw [fa_fct] at h3
  refine Nat.le_trans (Nat.le_trans (Nat.le_mul_of_pos_right _ h2) (Nat.le_of_eq h1)) h3
theorem EO_700 {xs : List Int} (L : Lam xs) {m : Nat} {u : Nat → Bool} (D : DnO xs.length (wbO xs) u) (hc : cnO xs.length u = m) (h : m ≤ 100) : EO xs.length (wbO xs) m u < 2 ^ 700 :=
  Nat.lt_of_le_of_lt (Nat.le_trans (EO_le L D hc h) (Nat.pow_le_pow_right (by decide) h)) (by decide +kernel)
theorem ords_700 {xs : List Int} (L : Lam xs) (h : xs.length ≤ 100) : ords xs < 2 ^ 700 := by
  rw [ords_eq L]
  exact EO_700 L DnO.full (cnO_full _) h
theorem cnO_le (n : Nat) (u : Nat → Bool) : cnO n u ≤ n := by
  unfold cnO
  rw [smO_b2]
  have := List.length_filter_le u (List.range n)
  rwa [List.length_range] at this

/-- in how many stretches of places that are not taken a place stands -/
def hds (xs : List Int) (u : Nat → Bool) (p : Nat) : Nat := smO (fun q => b2 (u q && wbO xs p q)) xs.length
theorem hds_one {xs : List Int} (L : Lam xs) {u : Nat → Bool} (D : DnO xs.length (wbO xs) u) {p : Nat} (hp : p < xs.length) : hds xs u p = 1 ↔ avO xs.length (wbO xs) u p = true := by
  have S := str8 L
  by_cases c : u p = true
  · have e := smO_out (f := fun q => b2 (u q && wbO xs p q)) (g := fun q => b2 (u q && wbO xs p q && !(q == p))) hp (fun i _ hi => by
      show b2 (u i && wbO xs p i && !(i == p)) = b2 (u i && wbO xs p i)
      rw [beq_false_of_ne hi]; congr 1; exact Bool.and_true _) (by
      show b2 (u p && wbO xs p p && !(p == p)) = 0
      rw [beq_self_eq_true, Bool.not_true, Bool.and_false]; rfl)
    have e1 : b2 (u p && wbO xs p p) = 1 := by rw [c, S.refl p hp]; rfl
    unfold hds
    rw [e]
    show b2 (u p && wbO xs p p) + _ = 1 ↔ _
    rw [e1, avO_iff]
    constructor
    · intro h
      refine ⟨c, fun q hq ne uq wq => ?_⟩
      have := smO_pos (f := fun q => b2 (u q && wbO xs p q && !(q == p))) hq (by
        show 0 < b2 (u q && wbO xs p q && !(q == p))
        rw [uq, wq, beq_false_of_ne ne]; exact Nat.one_pos)
      omega
    · rintro ⟨_, h⟩
      have : smO (fun q => b2 (u q && wbO xs p q && !(q == p))) xs.length = smO (fun _ => 0) xs.length := smO_congr fun q hq => by
        show b2 (u q && wbO xs p q && !(q == p)) = 0
        by_cases e : q = p
        · subst e; rw [beq_self_eq_true, Bool.not_true, Bool.and_false]; rfl
        · cases uq : u q
          · rfl
          · cases wq : wbO xs p q
            · rfl
            · exact (h q hq e uq wq).elim
      rw [this, smO_zero]
  · have h0 : hds xs u p = 0 := by
      unfold hds
      rw [← smO_zero xs.length]
      refine smO_congr fun q hq => ?_
      show b2 (u q && wbO xs p q) = 0
      cases uq : u q
      · rfl
      · cases wq : wbO xs p q
        · rfl
        · exact absurd (D p q hp hq uq wq) c
    rw [h0]
    constructor
    · intro h; cases h
    · intro h; exact absurd (avO_iff.mp h).1 c
theorem hds_rem {xs : List Int} {u : Nat → Bool} {p r : Nat} (hp : p < xs.length) (h : u p = true) : hds xs u r = hds xs (remO u p) r + b2 (wbO xs r p) := by
  unfold hds
  rw [smO_out (f := fun q => b2 (u q && wbO xs r q)) (g := fun q => b2 (remO u p q && wbO xs r q)) hp]
  · show b2 (u p && wbO xs r p) + _ = _
    rw [h, Bool.true_and]; omega
  · intro i _ hi
    show b2 (remO u p i && wbO xs r i) = b2 (u i && wbO xs r i)
    have : remO u p i = u i := by unfold remO; rw [beq_false_of_ne hi]; exact Bool.and_true _
    rw [this]
  · show b2 (remO u p p && wbO xs r p) = 0
    have : remO u p p = false := by unfold remO; rw [beq_self_eq_true, Bool.not_true, Bool.and_false]
    rw [this]; rfl

/-! ### the object -/
def Sts (K : PySem.W.Frag) (H : Hp) (p : Addr) (xs : List Int) : Prop := ∃ ps, H p = some (.lst ps) ∧ ps.length = xs.length ∧ ∀ i, i < xs.length → ∃ b, ps[i]? = some (.ref b) ∧ SqT K H b [.int (fc xs i), .int (lst xs i)]
theorem Sts.ex {K : PySem.W.Frag} {H H' : Hp} {p : Addr} {xs : List Int} (h : Sts K H p xs) (X : Evl.Ex H H') : Sts K H' p xs := by
  obtain ⟨ps, h1, h2, h3⟩ := h
  refine ⟨ps, X _ _ h1, h2, fun i hi => ?_⟩
  obtain ⟨b, hb, hS⟩ := h3 i hi
  exact ⟨b, hb, Evl.ex_t X hS⟩
def sf (p : Addr) (l c : Int) (q : Addr) : List (Str × V) := [("stretches", .ref p), ("left", .int l), ("count", .int c), ("holders", .ref q)]
theorem sf_ne : ("stretches" : Str) ≠ "left" ∧ ("stretches" : Str) ≠ "count" ∧ ("stretches" : Str) ≠ "holders" ∧ ("left" : Str) ≠ "count" ∧ ("left" : Str) ≠ "holders" ∧ ("count" : Str) ≠ "holders" := by decide +kernel
theorem lookF {f : Str} {v : V} {r : List (Str × V)} : ((f, v) :: r).lookup f = some v := by
  show (match f == f with | true => some v | false => r.lookup f) = some v
  rw [beq_self_eq_true]
theorem lookN {f g : Str} {v : V} {r : List (Str × V)} (h : f ≠ g) : ((g, v) :: r).lookup f = r.lookup f := by
  show (match f == g with | true => some v | false => r.lookup f) = r.lookup f
  rw [beq_false_of_ne h]
theorem putF_hit {f : Str} {v x : V} {r : List (Str × V)} : putF f v ((f, x) :: r) = (f, v) :: r := if_pos rfl
theorem putF_miss {f g : Str} {v x : V} {r : List (Str × V)} (h : g ≠ f) : putF f v ((g, x) :: r) = (g, x) :: putF f v r := if_neg h
theorem sf_st (p : Addr) (l c : Int) (q : Addr) : (sf p l c q).lookup ("stretches" : Str) = some (.ref p) := lookF
theorem sf_left (p : Addr) (l c : Int) (q : Addr) : (sf p l c q).lookup ("left" : Str) = some (.int l) := by
  unfold sf; rw [lookN sf_ne.1.symm, lookF]
theorem sf_count (p : Addr) (l c : Int) (q : Addr) : (sf p l c q).lookup ("count" : Str) = some (.int c) := by
  unfold sf; rw [lookN sf_ne.2.1.symm, lookN sf_ne.2.2.2.1.symm, lookF]
theorem sf_hold (p : Addr) (l c : Int) (q : Addr) : (sf p l c q).lookup ("holders" : Str) = some (.ref q) := by
  unfold sf; rw [lookN sf_ne.2.2.1.symm, lookN sf_ne.2.2.2.2.1.symm, lookN sf_ne.2.2.2.2.2.symm, lookF]
theorem sf_no (p : Addr) (l c : Int) (q : Addr) {m : Str} (h1 : m ≠ "stretches") (h2 : m ≠ "left") (h3 : m ≠ "count") (h4 : m ≠ "holders") : (sf p l c q).lookup m = none := by
  unfold sf; rw [lookN h1, lookN h2, lookN h3, lookN h4]; rfl
theorem sf_put_count (p : Addr) (l c d : Int) (q : Addr) : putF "count" (.int d) (sf p l c q) = sf p l d q := by
  unfold sf; rw [putF_miss sf_ne.2.1, putF_miss sf_ne.2.2.2.1, putF_hit]
theorem sf_put_left (p : Addr) (l c d : Int) (q : Addr) : putF "left" (.int d) (sf p l c q) = sf p d c q := by
  unfold sf; rw [putF_miss sf_ne.1, putF_hit]
theorem sf_make (p : Addr) (l c : Int) (q : Addr) : putF "holders" (.ref q) (putF "count" (.int c) (putF "left" (.int l) (putF "stretches" (.ref p) []))) = sf p l c q := by
  show putF "holders" (.ref q) (putF "count" (.int c) (putF "left" (.int l) [("stretches", .ref p)])) = _
  rw [putF_miss sf_ne.1]
  show putF "holders" (.ref q) (putF "count" (.int c) [("stretches", .ref p), ("left", .int l)]) = _
  rw [putF_miss sf_ne.2.1, putF_miss sf_ne.2.2.2.1]
  show putF "holders" (.ref q) [("stretches", .ref p), ("left", .int l), ("count", .int c)] = _
  rw [putF_miss sf_ne.2.2.1, putF_miss sf_ne.2.2.2.2.1, putF_miss sf_ne.2.2.2.2.2]
  rfl
def hdl (f : Nat → Int) (n : Nat) : List V := (List.range n).map fun r => V.int (f r)
/-- at s the sequences of the orders with the spans xs, the places of u not taken, m of them -/
structure SqO (K : PySem.W.Frag) (H : Hp) (s q pt : Addr) (xs : List Int) (u : Nat → Bool) (m : Nat) : Prop where
  lam : Lam xs
  len : xs.length ≤ 100
  dn : DnO xs.length (wbO xs) u
  cn : cnO xs.length u = m
  ob : ∃ dx, H s = some (.ins (CA K "Sequences") dx (sf pt m (EO xs.length (wbO xs) m u : Nat) q)) ∧ Sts K H pt xs ∧ pt ≠ q
  hs : H q = some (.lst (hdl (fun r => (hds xs u r : Nat)) xs.length))
theorem SqO.ex {K : PySem.W.Frag} {H H' : Hp} {s q pt : Addr} {xs : List Int} {u : Nat → Bool} {m : Nat} (O : SqO K H s q pt xs u m) (X : Evl.Ex H H') : SqO K H' s q pt xs u m := by
  obtain ⟨dx, h1, h2, h3⟩ := O.ob
  exact ⟨O.lam, O.len, O.dn, O.cn, ⟨dx, X _ _ h1, h2.ex X, h3⟩, X _ _ O.hs⟩
/-- all but the two stand as they stood -/
def Ex2 (s q : Addr) (H H' : Hp) : Prop := ∀ b o, b ≠ s → b ≠ q → H b = some o → H' b = some o
theorem Ex2.of {s q : Addr} {H H' : Hp} (X : Evl.Ex H H') : Ex2 s q H H' := fun b o _ _ h => X b o h
theorem Ex2.trans {s q : Addr} {H H1 H2 : Hp} (a : Ex2 s q H H1) (b : Ex2 s q H1 H2) : Ex2 s q H H2 := fun x o n1 n2 h => b x o n1 n2 (a x o n1 n2 h)
theorem Ex2.tup {K : PySem.W.Frag} {s q a : Addr} {H H' : Hp} {C dx : Addr} {fs : List (Str × V)} {xs ys : List V} (e : Ex2 s q H H') (hs : H s = some (.ins C dx fs)) (hq : H q = some (.lst ys)) (h : SqT K H a xs) : SqT K H' a xs := by
  rcases h with (h | ⟨o, h⟩) | h
  · exact .inl (.inl (e _ _ (ne_of h hs (by intro z; cases z)) (ne_of h hq (by intro z; cases z)) h))
  · exact .inl (.inr ⟨o, e _ _ (ne_of h hs (by intro z; cases z)) (ne_of h hq (by intro z; cases z)) h⟩)
  · exact .inr h
theorem Ex2.sts {K : PySem.W.Frag} {s q p : Addr} {H H' : Hp} {C dx : Addr} {fs : List (Str × V)} {xs : List Int} {ys : List V} (e : Ex2 s q H H') (hs : H s = some (.ins C dx fs)) (hq : H q = some (.lst ys)) (n : p ≠ q) (h : Sts K H p xs) : Sts K H' p xs := by
  obtain ⟨ps, h1, h2, h3⟩ := h
  refine ⟨ps, e _ _ (ne_of h1 hs (by intro z; cases z)) n h1, h2, fun i hi => ?_⟩
  obtain ⟨b, hb, hS⟩ := h3 i hi
  exact ⟨b, hb, e.tup hs hq hS⟩
theorem Ex2.updS {s q : Addr} {H : Hp} {o : HO} : Ex2 s q H (upd H s o) := fun b u n _ h => by rw [upd_ne n]; exact h
theorem Ex2.updQ {s q : Addr} {H : Hp} {o : HO} : Ex2 s q H (upd H q o) := fun b u _ n h => by rw [upd_ne n]; exact h
/-- a sequence as the order -/
def tau (n : Nat) (s : List Nat) : List Int := (List.range n).map fun i => if i ∈ s then (n : Int) - 1 - (s.idxOf i : Nat) else 0
theorem tau_len (n : Nat) (s : List Nat) : (tau n s).length = n := by unfold tau; rw [List.length_map, List.length_range]
theorem tau_g {n : Nat} {s : List Nat} {i : Nat} (h : i < n) (hm : i ∈ s) : g (tau n s) i = (n : Int) - 1 - (s.idxOf i : Nat) := by
  unfold tau g
  rw [List.getD_eq_getElem?_getD, List.getElem?_map, List.getElem?_range h]
  show (if i ∈ s then _ else _) = _
  rw [if_pos hm]
theorem idx_at {s : List Nat} {i : Nat} (h : i ∈ s) : s[s.idxOf i]? = some i := by
  have hl := List.idxOf_lt_length_of_mem h
  rw [List.getElem?_eq_getElem hl]
  exact congrArg some (List.getElem_idxOf hl)
/-- an order by its sequence has these spans -/
theorem tau_spans {xs : List Int} (L : Lam xs) {s : List Nat} (hs : LE xs.length (wbO xs) (fun _ => true) s) (hl : s.length = xs.length) : spans (tau xs.length s) = xs := by
  have ha := fun p hp => hs.all (by rw [cnO_full]; exact hl) p hp rfl
  refine spans_of L (tau_len _ _) (fun p q hpq hq h => ?_) fun p q hqp hp h => ?_
  · rw [tau_g (by omega) (ha p (by omega)), tau_g hq (ha q hq)]
    have := hs.behind (idx_at (ha p (by omega))) (idx_at (ha q hq)) (by omega) (wbO_iff.mpr ⟨h, by have := lst_in hq; omega⟩)
    omega
  · rw [tau_g hp (ha p hp), tau_g (by omega) (ha q (by omega))]
    have := hs.behind (idx_at (ha p hp)) (idx_at (ha q (by omega))) (by omega) (wbO_iff.mpr ⟨by have := fc_le L (q := q) (by omega); omega, h⟩)
    omega
/-- the order of a number -/
def Oc (xs : List Int) (k : Nat) (ys : List Int) : Prop := ∃ s, Sq xs.length (wbO xs) xs.length (fun _ => true) k s ∧ ys = tau xs.length s
theorem Oc.spans {xs ys : List Int} {k : Nat} (L : Lam xs) (h : Oc xs k ys) : spans ys = xs := by
  obtain ⟨s, h1, rfl⟩ := h
  exact tau_spans L h1.le h1.len
theorem Oc.len {xs ys : List Int} {k : Nat} (h : Oc xs k ys) : ys.length = xs.length := by
  obtain ⟨s, h1, rfl⟩ := h
  exact tau_len _ _
theorem idx_lt {n : Nat} {s : List Nat} (hl : s.length = n) {i : Nat} (h : i ∈ s) : s.idxOf i < n := by rw [← hl]; exact List.idxOf_lt_length_of_mem h
theorem Oc.bound {xs ys : List Int} {k : Nat} (h : Oc xs k ys) {i : Nat} (hi : i < xs.length) : 0 ≤ g ys i ∧ g ys i < xs.length := by
  obtain ⟨s, h1, rfl⟩ := h
  have ha := h1.le.all (by rw [cnO_full]; exact h1.len) i hi rfl
  rw [tau_g hi ha]
  have := idx_lt h1.len ha
  omega
theorem Oc.rw {xs ys : List Int} {k : Nat} (h : Oc xs k ys) (h0 : 1 ≤ xs.length) (h1 : xs.length ≤ 100) : Rw ys := by
  have hl := h.len
  refine ⟨by omega, by omega, fun x hx => ?_⟩
  obtain ⟨i, hi, rfl⟩ := List.mem_iff_getElem.mp hx
  have e : g ys i = ys[i] := by unfold g; rw [List.getD_eq_getElem?_getD, List.getElem?_eq_getElem hi]; rfl
  rw [← e]
  have := h.bound (i := i) (by omega)
  have e30 : (10 : Int) ^ 30 = 1000000000000000000000000000000 := by decide
  rw [e30]
  omega
/-- place_with -/
def pw : List (Nat × Nat) → Nat → Option (Nat × Nat)
  | [], _ => none
  | (p, e) :: r, k => if k < e then some (p, k) else pw r (k - e)
/-- the places that can come next, each with its share -/
def shl (n : Nat) (wi : Nat → Nat → Bool) (m : Nat) (u : Nat → Bool) (t : Nat) : List (Nat × Nat) := ((List.range t).filter (avO n wi u)).map fun p => (p, EO n wi m (remO u p))
theorem shl_succ (n : Nat) (wi : Nat → Nat → Bool) (m : Nat) (u : Nat → Bool) (t : Nat) : shl n wi m u (t + 1) = shl n wi m u t ++ (if avO n wi u t = true then [(t, EO n wi m (remO u t))] else []) := by
  unfold shl
  rw [List.range_succ, List.filter_append, List.map_append]
  congr 1
  by_cases c : avO n wi u t = true
  · rw [if_pos c, List.filter_cons_of_pos c]; rfl
  · rw [if_neg c, List.filter_cons_of_neg c]; rfl
def sms : List (Nat × Nat) → Nat
  | [] => 0
  | (_, e) :: r => e + sms r
theorem sms_app : ∀ (a b : List (Nat × Nat)), sms (a ++ b) = sms a + sms b
  | [], b => (Nat.zero_add _).symm
  | (p, e) :: a, b => by show e + sms (a ++ b) = e + sms a + sms b; rw [sms_app a b]; omega
theorem sms_shl {n : Nat} {wi : Nat → Nat → Bool} {m : Nat} {u : Nat → Bool} : ∀ t, sms (shl n wi m u t) = smO (wy n wi m u) t
  | 0 => rfl
  | t + 1 => by
    rw [shl_succ, sms_app, sms_shl t]
    show _ = smO (wy n wi m u) t + wy n wi m u t
    congr 1
    unfold wy
    split
    · show EO n wi m (remO u t) + 0 = _; rfl
    · rfl
/-- what the loop of place_with finds -/
theorem pw_at : ∀ {l : List (Nat × Nat)} {k : Nat}, k < sms l → ∃ j p e, l[j]? = some (p, e) ∧ sms (l.take j) ≤ k ∧ k - sms (l.take j) < e
  | [], k, h => absurd h (Nat.not_lt_zero _)
  | (p, e) :: r, k, h => by
    have h : k < e + sms r := h
    by_cases c : k < e
    · exact ⟨0, p, e, rfl, Nat.zero_le _, by show k - 0 < e; omega⟩
    · obtain ⟨j, p', e', h1, h2, h3⟩ := pw_at (l := r) (k := k - e) (by omega)
      refine ⟨j + 1, p', e', h1, ?_, ?_⟩
      · show e + sms (r.take j) ≤ k; omega
      · show k - (e + sms (r.take j)) < e'; omega
/-- .. is the place with that number -/
theorem shl_at {n : Nat} {wi : Nat → Nat → Bool} {m : Nat} {u : Nat → Bool} : ∀ {t j p e : Nat}, (shl n wi m u t)[j]? = some (p, e) → p < t ∧ avO n wi u p = true ∧ e = EO n wi m (remO u p) ∧ sms ((shl n wi m u t).take j) = smO (wy n wi m u) p
  | 0, j, p, e, h => by simp [shl] at h
  | t + 1, j, p, e, h => by
    rw [shl_succ] at h ⊢
    by_cases c : j < (shl n wi m u t).length
    · rw [List.getElem?_append_left c] at h
      obtain ⟨h1, h2, h3, h4⟩ := shl_at h
      refine ⟨by omega, h2, h3, ?_⟩
      rw [List.take_append_of_le_length (by omega)]
      exact h4
    · rw [List.getElem?_append_right (by omega)] at h
      by_cases a : avO n wi u t = true
      · rw [if_pos a] at h ⊢
        have hj : j - (shl n wi m u t).length = 0 := by
          have := (List.getElem?_eq_some_iff.mp h).1
          simp at this
          omega
        rw [hj] at h
        cases h
        refine ⟨Nat.lt_succ_self _, a, rfl, ?_⟩
        have ej : j = (shl n wi m u t).length := by omega
        rw [ej, List.take_left', sms_shl]
        rfl
      · rw [if_neg a] at h
        simp at h
theorem pk_of {n : Nat} {wi : Nat → Nat → Bool} {m : Nat} {u : Nat → Bool} {j p e k : Nat} (h : (shl n wi m u n)[j]? = some (p, e)) (h2 : sms ((shl n wi m u n).take j) ≤ k) (h3 : k - sms ((shl n wi m u n).take j) < e) :
    PkO n wi m u k p (k - sms ((shl n wi m u n).take j)) := by
  obtain ⟨h1, h4, h5, h6⟩ := shl_at h
  rw [h6] at h2 h3 ⊢
  exact ⟨h1, h4, by omega, by rw [← h5]; exact h3⟩
theorem sms_take {l : List (Nat × Nat)} {i p e : Nat} (h : l[i]? = some (p, e)) : sms (l.take (i + 1)) = sms (l.take i) + e := by
  have hi := (List.getElem?_eq_some_iff.mp h).1
  have e1 : l.take (i + 1) = l.take i ++ [(p, e)] := by
    rw [List.take_add_one, h]; rfl
  rw [e1, sms_app]; rfl
theorem sms_less {l : List (Nat × Nat)} {i k : Nat} (h : sms (l.take i) ≤ k) (h2 : k < sms l) : i < l.length := by
  rcases Nat.lt_or_ge i l.length with c | c
  · exact c
  · rw [List.take_of_length_le c] at h; omega
/-- the shares in the heap -/
def Shl (K : PySem.W.Frag) (H : Hp) (l : Addr) (sh : List (Nat × Nat)) : Prop := ∃ ps, H l = some (.lst ps) ∧ ps.length = sh.length ∧ ∀ (j p e : Nat), sh[j]? = some (p, e) → ∃ b, ps[j]? = some (V.ref b) ∧ SqT K H b [V.int (p : Int), V.int (e : Int)]
theorem shl_len {n : Nat} {wi : Nat → Nat → Bool} {m : Nat} {u : Nat → Bool} (t : Nat) : (shl n wi m u t).length ≤ t := by
  unfold shl
  rw [List.length_map]
  have := List.length_filter_le (avO n wi u) (List.range t)
  rwa [List.length_range] at this
end Sx

set_option Elab.async false
set_option linter.all false
set_option maxRecDepth 100000
namespace Sx
open PySem PySem.W PySem.Calls PyProof.Rows PyProof.V PySem.Spec L2
/-! ### sorted(a list of tuples of ints) -/
theorem tup_items : ∀ {ns : List Int} {its : List Value} (i : Nat), Vals (ns.map V.int) its → tupItems (fun _ => false) i its = some (ns.map Sum.inl)
  | [], its, i, h => by cases h; rfl
  | n :: ns, its, i, h => by
    cases h with
    | cons h1 h2 =>
      obtain ⟨t, rfl⟩ := h1
      show (if (false : Bool) = true then none else (tupItems (fun _ => false) (i + 1) _).map (Sum.inl n :: ·)) = _
      rw [if_neg (by decide), tup_items (i + 1) h2]; rfl
theorem lex_items : ∀ ns ms : List Int, PyProof.Rows.lexLt itemOrd (ns.map Sum.inl) (ms.map Sum.inl) = HT.lexLt ns ms
  | [], [] => rfl
  | [], _ :: _ => rfl
  | _ :: _, [] => rfl
  | x :: xs, y :: ys => by
    show PyProof.Rows.lexLt itemOrd (Sum.inl x :: xs.map Sum.inl) (Sum.inl y :: ys.map Sum.inl) = (if x = y then HT.lexLt xs ys else decide (x < y))
    rw [lex_cons, lex_items xs ys]
    show (decide (x < y) || (!decide (y < x) && HT.lexLt xs ys)) = _
    by_cases c : x = y
    · subst c; simp
    · rw [if_neg c]
      by_cases d : x < y
      · simp [d]
      · have : y < x := by omega
        simp [d, this]
def rSortedTT (K : PySem.W.Frag) : List V → Hp → VK → Prop := fun vs H Q => ∃ (a : Addr) (ts : List Addr) (k : Addr → List Int), vs = [V.ref a] ∧ SqL K H a (ts.map V.ref) ∧ (∀ t ∈ ts, SqT K H t ((k t).map V.int) ∧ k t ≠ []) ∧
  ∀ (us : List Addr) p, us.Perm ts → (us.Pairwise fun x y => HT.lexLt (k y) (k x) = false) → H p = none → Q (.ref p) (upd H p (.lst (us.map V.ref)))
variable {X : Cx}
theorem cr_sortedTT : CallR X (.builtin "sorted") (rSortedTT X.K) := by
  intro pins s σ H vs us Q I r h
  obtain ⟨a, ts, k, rfl, hs, hx, q⟩ := h
  obtain ⟨its, rv, hl, hz⟩ := I.list hs
  obtain ⟨u, rfl, ru⟩ := vals1 r
  obtain rfl : u = Value.ref a := ru
  have ei := nts_of rv
  subst ei
  have hk : ∀ t ∈ ts, ∃ (o : Obj) (items : List Value) (n : Nat), s.heap.get? t = some o ∧ o.cls = .type "tuple" ∧ o.data = .seq items.toArray n ∧ Vals ((k t).map V.int) items := fun t ht => by
    obtain ⟨items, r1, ⟨o, h1, h2, n, h3⟩, _⟩ := I.tuple (hx t ht).1
    exact ⟨o, items, n, h1, h2, h3, r1⟩
  obtain ⟨fs, hfs⟩ : ∃ fs, TupsOf s.heap (fun _ => false) (ts.map Value.ref) fs := by
    have main : ∀ l : List Addr, (∀ t ∈ l, t ∈ ts) → ∃ fs, TupsOf s.heap (fun _ => false) (l.map Value.ref) fs := by
      intro l
      induction l with
      | nil => intro _; exact ⟨[], .nil⟩
      | cons t l ih =>
        intro hm
        obtain ⟨fs, h⟩ := ih fun x hx => hm x (List.mem_cons_of_mem _ hx)
        have htm := hm t (List.mem_cons_self ..)
        obtain ⟨o, items, n, h1, h2, h3, h4⟩ := hk t htm
        have hne := (hx t htm).2
        cases e : k t with
        | nil => exact absurd e hne
        | cons z zs =>
          rw [e] at h4
          cases h4 with
          | cons h5 h6 =>
            obtain ⟨tk, rfl⟩ := h5
            exact ⟨_ :: fs, .cons ⟨t, o, _, n, rfl, h1, h2, h3, rfl, fun _ => ⟨z, tk, rfl⟩, fun h => by cases h⟩ h⟩
    exact main ts fun _ h => h
  have hkey : ∀ t ∈ ts, G.tupKeyC s.heap (fun _ => false) (.ref t) = some ((k t).map Sum.inl) := fun t ht => by
    obtain ⟨o, items, n, h1, h2, h3, h4⟩ := hk t ht
    have e1 : G.isTupObj s.heap (.ref t) = true := by
      unfold G.isTupObj
      simp only [h1, h2]
      rfl
    unfold G.tupKeyC
    rw [if_pos e1]
    unfold tupKey
    simp only [h1, h3]
    exact tup_items 0 h4
  have hkk : ∀ v, v ∈ ts.map Value.ref → ∃ l, G.tupKeyC s.heap (fun _ => false) v = some l := fun v hv => by
    obtain ⟨t, ht, rfl⟩ := List.mem_map.mp hv
    exact ⟨_, hkey t ht⟩
  refine G.sorted_tups (shape := fun _ => false) (fs := fs) hl.isList hfs hkk (by rw [List.length_map] at hz ⊢; exact hz) fun st' hp hso hstb => ?_
  have hpl : (arrOf st').toList.Perm (List.zip (ts.map Value.ref) (ts.map Value.ref)) := by
    have := hp.toList
    rwa [pairsOf_toList] at this
  obtain ⟨ps, hps⟩ : ∃ ps, (arrOf st').toList = ps := ⟨_, rfl⟩
  rw [hps] at hpl
  have hpm : ∀ p ∈ ps, ∃ t ∈ ts, p = (Value.ref t, Value.ref t) := fun p hp' => by
    have hz := hpl.mem_iff.mp hp'
    rw [List.zip_map', List.mem_map] at hz
    obtain ⟨t, ht, rfl⟩ := hz
    exact ⟨t, ht, rfl⟩
  obtain ⟨us, hus⟩ : ∃ us : List Addr, us = ps.map fun p => adO p.2 := ⟨_, rfl⟩
  have hout : (Array.map (fun x => x.2) (arrOf st')).toList = us.map Value.ref := by
    rw [Array.toList_map, hps, hus, List.map_map]
    refine List.map_congr_left fun p hp' => ?_
    obtain ⟨t, _, rfl⟩ := hpm p hp'
    rfl
  have hperm : us.Perm ts := by
    have h1 := hpl.map fun p : Value × Value => adO p.2
    rw [← hus, List.zip_map', List.map_map] at h1
    have h2 : ts.map ((fun p : Value × Value => adO p.2) ∘ fun a => (Value.ref a, Value.ref a)) = ts := by
      have : ((fun p : Value × Value => adO p.2) ∘ fun a => (Value.ref a, Value.ref a)) = id := rfl
      rw [this, List.map_id]
    rwa [h2] at h1
  have hsrt : us.Pairwise fun x y => HT.lexLt (k y) (k x) = false := by
    have hKK : ∀ (i : Nat) (h : i < us.length), KK (G.tupKindC s.heap fun _ => false) (arrOf st') i = (k us[i]).map Sum.inl := fun i h => by
      have hi : i < ps.length := by rw [hus, List.length_map] at h; exact h
      obtain ⟨t, ht, e⟩ := hpm ps[i] (List.getElem_mem hi)
      have eu : us[i] = t := by
        have : us[i] = (ps.map fun p => adO p.2)[i]'(by rw [List.length_map]; exact hi) := by
          congr 1
        rw [this, List.getElem_map, e]; rfl
      have e2 : (arrOf st')[i]? = some (Value.ref t, Value.ref t) := by
        rw [← Array.getElem?_toList, hps, List.getElem?_eq_getElem hi, e]
      unfold KK
      rw [e2]
      show (G.tupKeyC s.heap (fun _ => false) (.ref t)).getD _ = _
      rw [hkey t ht, eu]; rfl
    rw [List.pairwise_iff_getElem]
    intro i j hi hj hij
    have hsz : (pairsOf (ts.map Value.ref)).size = us.length := by
      rw [pairsOf_size, List.length_map, hperm.length_eq]
    have h := hso i j (by omega) (by rw [hsz]; exact hj)
    rw [hKK i hi, hKK j hj] at h
    have h : PyProof.Rows.lexLt itemOrd ((k us[j]).map Sum.inl) ((k us[i]).map Sum.inl) = false := h
    rwa [lex_items] at h
  obtain ⟨n, hn⟩ := sortedAll_at s.heap (ts.map Value.ref) (Array.map (fun x => x.2) (arrOf st'))
  have heq : Array.map (fun x => x.2) (arrOf st') = (us.map Value.ref).toArray := by rw [← hout]
  rw [heq] at hn ⊢
  refine ⟨.ref (s.heap.objs.size + 1), upd H (s.heap.objs.size + 1) (.lst (us.map V.ref)), I.laid (t' := s.toks) (fun b o e => sortedAll_old e) (Nat.le_succ _) ⟨?_, us.map Value.ref, n, of_nts us, hn⟩, rfl, q us _ hperm hsrt (I.hok.fresh (Nat.le_succ _))⟩
  rw [List.length_map, hperm.length_eq]
  rwa [List.length_map] at hz
end Sx

set_option Elab.async false
set_option linter.all false
set_option maxRecDepth 100000
namespace Sx
open PySem PySem.W PySem.Calls PyProof.Rows PyProof.V PySem.Spec L2
/-! ### a dict with tuples as keys: the sum of its values, its keys sorted -/
/-- the view of the values at p -/
def valsO (p d : Addr) : HO := .ext fun h => h.IsValuesView p d
theorem valsO_ok {P : Program} {w : World} {H : Hp} {h : Heap} {p d : Addr} (e : h.get? p = some { cls := .type "dict_values", data := .fields #[.ref d] }) : ObjOk P w H h p (valsO p d) :=
  ⟨⟨_, e, rfl, rfl⟩, ⟨_, e⟩, fun h1 h2 x k => let ⟨o, ho, r⟩ := x; ⟨o, k o ho, r⟩⟩
section
variable {X : Cx}
def rValuesT : V → List V → Hp → VK → Prop := fun x xs H Q => ∃ (a : Addr) (kvs : List (List L2.Key × V)), x = .ref a ∧ xs = [] ∧ H a = some (.dT kvs) ∧ ∀ p, H p = none → Q (.ref p) (upd H p (valsO p a))
theorem mt_valuesT : MtR X "dict.values" rValuesT := by
  intro pins s σ H x xs v us Q I rx rxs h
  obtain ⟨a, kvs, rfl, rfl, ha, q⟩ := h
  cases rx
  cases rxs
  obtain ⟨z, hd, xs', rel, dd⟩ := dt_of I.hok ha
  obtain ⟨o, es, ep, ho, hx, hdat, _⟩ := id dd
  have hf : H s.heap.objs.size = none := I.hok.fresh (Nat.le_refl _)
  exact call_meetsIn PySem.F.slot_dict_values dd.typeIs PySem.F.entry_dict_values (PySem.F.args_dict_values_1 _) (meets_dict_values_raw a hd)
    ⟨⟨es, ep, o, ho, hx, hdat⟩, .ref s.heap.objs.size, upd H s.heap.objs.size (valsO s.heap.objs.size a), I.laid (t' := s.toks) (fun b u e => Heap.get?_push_of_some _ e) (Nat.le_refl _) (valsO_ok (Heap.get?_push_size _ rfl)), rfl, q _ hf⟩
/-- sum(d.values()) -/
def rSumVals : List V → Hp → VK → Prop := fun vs H Q => ∃ (p a : Addr) (kvs : List (List L2.Key × V)) (is : List Int), vs = [.ref p] ∧ H p = some (valsO p a) ∧ H a = some (.dT kvs) ∧ kvs.map (·.2) = is.map V.int ∧ Q (.int is.sum) H
theorem preSum_getD (is : List Int) : ∀ n, n ≤ is.length → preSum (fun i => is.getD i 0) n = (is.take n).sum
  | 0, _ => rfl
  | n + 1, h => by
    show preSum (fun i => is.getD i 0) n + is.getD n 0 = _
    rw [preSum_getD is n (by omega), List.take_add_one, List.sum_append, List.getD_eq_getElem?_getD, List.getElem?_eq_getElem h]
    show _ = (is.take n).sum + (is[n] + 0)
    rw [Int.add_zero]; rfl
theorem cr_sumVals (hc : X.calm = true) : CallR X (.builtin "sum") rSumVals := by
  intro pins s σ H vs us Q I r h
  obtain ⟨p, a, kvs, is, rfl, hp, ha, hv, q⟩ := h
  rw [Vals.ref1 r]
  have view : s.heap.IsValuesView p a := (show ObjOk X.prog X.w H s.heap p (valsO p a) from I.hok p _ hp).1
  obtain ⟨z, hd, xs, rel, o, es, ep, ho, hx, hdat, hes, _⟩ := dt_of I.hok ha
  have hok : s.heap.IsValuesView p a ∧ s.heap.DictRaw a es ep := ⟨view, o, ho, hx, hdat⟩
  have hh : X.A.handled = none := I.ok.hd hc
  have l1 : es.size = xs.length := size_of_entries hes
  have l2 : kvs.length = xs.length := Paired.length rel
  have l3 : kvs.length = is.length := by
    have := congrArg List.length hv
    rwa [List.length_map, List.length_map] at this
  have hval : ∀ (i : Nat) (v : Value), (∃ hi : i < es.size, v = es[i].val) → ∃ t : Tok, v = Value.int (is.getD i 0) t := by
    rintro i v ⟨hi, rfl⟩
    have e1 := entry_at hes i
    rw [Array.getElem?_eq_getElem hi] at e1
    have hix : i < xs.length := by omega
    rw [List.getElem?_eq_getElem hix] at e1
    have e2 : es[i] = entryOfKey (tupleKind (mixKind X.prog X.w)) xs[i] := Option.some.inj e1
    obtain ⟨y, hy, _, _, ry⟩ := L2.DX.pget rel (List.getElem?_eq_getElem hix)
    have e3 : (kvs.map (·.2))[i]? = some y.2 := by rw [List.getElem?_map, hy]; rfl
    rw [hv, List.getElem?_map, List.getElem?_eq_getElem (by omega)] at e3
    have e4 : V.int is[i] = y.2 := Option.some.inj e3
    rw [← e4] at ry
    obtain ⟨t, et⟩ := ry
    refine ⟨t, ?_⟩
    rw [e2, List.getD_eq_getElem?_getD, List.getElem?_eq_getElem (by omega)]
    exact et
  refine call_sum_walkAnyS ?_
  obtain ⟨oI, St, hit, W, st⟩ := (KdlSrc.rawValues (prog := X.prog) (w := X.w) (r := p) (d := a) (es := es) (ep := ep)).iter X.A.in1 s hh hok
  refine hit _ _ ⟨s.heap.objs.size, _, _, _, es.size, _, _, (fun i => is.getD i 0), rfl, W.toS, st, fun b hb => ?_, hval, fun s' t' hm => ?_⟩
  · show b < (s.heap.push oI).objs.size
    rw [size_push']
    rcases List.mem_cons.mp hb with e | hb
    · rw [e]; exact Nat.lt_succ_self _
    · rw [List.mem_singleton.mp hb]; exact Nat.lt_succ_of_lt (Heap.lt_size ho)
  · have hk : ∀ b o, s.heap.get? b = some o → s'.heap.get? b = some o := fun b o e =>
      hm.heap b o (fun hI => absurd (Heap.lt_size e) (by rw [List.mem_singleton.mp hI]; exact Nat.lt_irrefl _)) (Heap.get?_push_of_some _ e)
    rw [Moved.eq_with hm, preSum_getD is es.size (by omega), List.take_of_length_le (by omega)]
    exact ⟨.int _, H, I.kept (t' := s'.toks) hk, ⟨t', rfl⟩, q⟩
/-- sorted(d): the keys are tuples of ints, none of them empty -/
def rSortedDT : List V → Hp → VK → Prop := fun vs H Q => ∃ (a : Addr) (kvs : List (List L2.Key × V)) (L : List (List Int)), vs = [V.ref a] ∧ H a = some (.dT kvs) ∧ kvs.map (·.1) = L.map (fun l => l.map Sum.inl) ∧ (∀ l ∈ L, l ≠ []) ∧
  ∀ (us : List (Addr × List Int)) p, (us.map (·.2)).Perm L → (us.Pairwise fun x y => HT.lexLt y.2 x.2 = false) → (∀ u ∈ us, H u.1 = some (.tup (u.2.map V.int))) → H p = none → Q (.ref p) (upd H p (.lst (us.map fun u => V.ref u.1)))
theorem keys_pairs {H : Hp} : ∀ {kvs : List (List L2.Key × V)} {xs : List (List L2.Key × Addr × Value)} {L : List (List Int)}, KT H kvs xs → kvs.map (·.1) = L.map (fun l => l.map Sum.inl) →
    ∃ ts : List (Addr × List Int), ts.map (·.2) = L ∧ xs.map (fun x => x.2.1) = ts.map (·.1) ∧ ∀ u ∈ ts, H u.1 = some (.tup (u.2.map V.int))
  | [], _, [], .nil, _ => ⟨[], rfl, rfl, fun u h => by cases h⟩
  | [], _, _ :: _, .nil, h => by cases h
  | p :: kvs, q :: xs, [], .cons _ _, h => by cases h
  | p :: kvs, q :: xs, l :: L, .cons h1 h2, h => by
    have h : p.1 :: kvs.map (·.1) = l.map Sum.inl :: L.map (fun l => l.map Sum.inl) := h
    obtain ⟨ts, e1, e2, e3⟩ := keys_pairs h2 (List.cons.inj h).2
    refine ⟨(q.2.1, l) :: ts, by rw [List.map_cons, e1], by rw [List.map_cons, List.map_cons, e2], fun u hu => ?_⟩
    rcases List.mem_cons.mp hu with rfl | hu
    · have h3 := h1.2.1
      rw [(List.cons.inj h).1, List.map_map] at h3
      exact h3
    · exact e3 u hu
theorem cr_sortedDT (hc : X.calm = true) : CallR X (.builtin "sorted") rSortedDT := by
  intro pins s σ H vs us Q I r h
  obtain ⟨a, kvs, L, rfl, ha, hL, hne, q⟩ := h
  rw [Vals.ref1 r]
  obtain ⟨z, hd, xs, rel, o, es, ep, ho, hx, hdat, hes, _⟩ := dt_of I.hok ha
  have hh : X.A.handled = none := I.ok.hd hc
  have l1 : es.size = xs.length := size_of_entries hes
  have l2 : kvs.length = xs.length := Paired.length rel
  obtain ⟨ts, t1, t2, t3⟩ := keys_pairs rel hL
  have l3 : ts.length = xs.length := by
    have := congrArg List.length t2
    rw [List.length_map, List.length_map] at this
    exact this.symm
  refine call_function_entry kind_sorted plain_sorted entry_sorted (args_sorted1 _) ?_
  unfold Builtin.«sorted»
  refine wpAny_bind (m := checkCount "sorted" 1 1 _) (wpAny_pure ?_)
  refine wpAny_bind (kdu_collect (A := X.A.in1) (KdlSrc.rawDict (prog := X.prog) (w := X.w) (es := es) (ep := ep) hd) hh ⟨o, ho, hx, hdat⟩ (by omega) fun h' tk acc hk hacc => ?_)
  obtain ⟨hz, hat⟩ := hacc
  have hacc : acc.toList = ts.map fun u => Value.ref u.1 := by
    refine List.ext_getElem? fun i => ?_
    rcases Nat.lt_or_ge i es.size with c | c
    · have hi : i < acc.size := by omega
      obtain ⟨hi2, e1⟩ := hat i acc[i] (Array.getElem?_eq_getElem hi)
      have e2 := entry_at hes i
      have hix : i < xs.length := by omega
      rw [Array.getElem?_eq_getElem hi2, List.getElem?_eq_getElem hix] at e2
      have e3 : es[i] = entryOfKey (tupleKind (mixKind X.prog X.w)) xs[i] := Option.some.inj e2
      have e4 : (xs.map (fun x => x.2.1))[i]? = (ts.map (·.1))[i]? := by rw [t2]
      rw [List.getElem?_map, List.getElem?_map, List.getElem?_eq_getElem hix, List.getElem?_eq_getElem (by omega)] at e4
      have e5 : xs[i].2.1 = (ts[i]'(by omega)).1 := Option.some.inj e4
      rw [Array.getElem?_toList, Array.getElem?_eq_getElem hi, List.getElem?_map, List.getElem?_eq_getElem (by omega), e1, e3]
      show some (Value.ref xs[i].2.1) = _
      rw [e5]; rfl
    · rw [List.getElem?_eq_none (by rw [Array.length_toList]; omega), List.getElem?_eq_none (by rw [List.length_map]; omega)]
  refine wpAny_bind (wpAny_newList ?_ (by rw [Array.length_toList]; omega))
  rw [hacc]
  have I1 : Inv X pins σ H { s with heap := h', toks := tk } := I.kept (t' := tk) hk
  have hob : (h'.push { cls := .type "list", data := .seq (ts.map fun u => Value.ref u.1).toArray }).get? h'.objs.size = some (seqObj "list" (ts.map fun u => Value.ref u.1).toArray 0) := Heap.get?_push_size _ rfl
  have ka : ∀ b o, h'.get? b = some o → (h'.push { cls := .type "list", data := .seq (ts.map fun u => Value.ref u.1).toArray }).get? b = some o := fun b o e => Heap.get?_push_of_some _ e
  generalize h'.push { cls := .type "list", data := .seq (ts.map fun u => Value.ref u.1).toArray } = h2 at hob ka ⊢
  have hneT : ∀ u ∈ ts, u.2 ≠ [] := fun u hu => hne _ (by rw [← t1]; exact List.mem_map_of_mem hu)
  have hk2 : ∀ u ∈ ts, ∃ (o : Obj) (items : List Value) (n : Nat), h2.get? u.1 = some o ∧ o.cls = .type "tuple" ∧ o.data = .seq items.toArray n ∧ Vals (u.2.map V.int) items := fun u hu => by
    obtain ⟨_, its, rv, ot, hot, hct, nt, hdt⟩ := (show ObjOk X.prog X.w H h' u.1 (.tup (u.2.map V.int)) from I1.hok u.1 _ (t3 u hu))
    exact ⟨ot, its, nt, ka _ _ hot, hct, hdt, rv⟩
  obtain ⟨fs, hfs⟩ : ∃ fs, TupsOf h2 (fun _ => false) (ts.map fun u => Value.ref u.1) fs := by
    have main : ∀ l : List (Addr × List Int), (∀ u ∈ l, u ∈ ts) → ∃ fs, TupsOf h2 (fun _ => false) (l.map fun u => Value.ref u.1) fs := by
      intro l
      induction l with
      | nil => intro _; exact ⟨[], .nil⟩
      | cons u l ih =>
        intro hm
        obtain ⟨fs, h⟩ := ih fun x hx => hm x (List.mem_cons_of_mem _ hx)
        have hum := hm u (List.mem_cons_self ..)
        obtain ⟨o, items, n, h1, h2, h3, h4⟩ := hk2 u hum
        have hn := hneT u hum
        cases e : u.2 with
        | nil => exact absurd e hn
        | cons z zs =>
          rw [e] at h4
          cases h4 with
          | cons h5 h6 =>
            obtain ⟨tk, rfl⟩ := h5
            exact ⟨_ :: fs, .cons ⟨u.1, o, _, n, rfl, h1, h2, h3, rfl, fun _ => ⟨z, tk, rfl⟩, fun h => by cases h⟩ h⟩
    exact main ts fun _ h => h
  have hkey : ∀ u ∈ ts, G.tupKeyC h2 (fun _ => false) (.ref u.1) = some (u.2.map Sum.inl) := fun u hu => by
    obtain ⟨o, items, n, h1, h2, h3, h4⟩ := hk2 u hu
    unfold G.tupKeyC
    rw [if_pos (by unfold G.isTupObj; simp only [h1, h2]; rfl)]
    unfold tupKey
    simp only [h1, h3]
    exact tup_items 0 h4
  have hkk : ∀ v, v ∈ (ts.map fun u => Value.ref u.1) → ∃ l, G.tupKeyC h2 (fun _ => false) v = some l := fun v hv => by
    obtain ⟨u, hu, rfl⟩ := List.mem_map.mp hv
    exact ⟨_, hkey u hu⟩
  have hlen : (ts.map fun u => Value.ref u.1).length ≤ sizeLine := by rw [List.length_map]; omega
  refine wpAny_bind (wpAny_holding (wpAny_call_entry slot_list_sort ⟨_, hob, rfl⟩ entry_list_sort (G.list_sort_tups (s := { s with heap := h2, toks := tk }) (fs := fs) hob hfs hkk hlen fun st' hp hso hstb => ⟨_, rfl, ?_⟩) (args_list_sort _)))
  refine wpAny_pure ⟨_, rfl, ?_⟩
  have hpl : (arrOf st').toList.Perm (List.zip (ts.map fun u => Value.ref u.1) (ts.map fun u => Value.ref u.1)) := by
    have := hp.toList
    rwa [pairsOf_toList] at this
  obtain ⟨zs, pz, ez⟩ := perm_lift (fun u : Addr × List Int => (Value.ref u.1, Value.ref u.1)) hpl ts (by rw [List.zip_map'])
  have hout : ((arrOf st').map (fun x => x.2)).toList = zs.map fun u => Value.ref u.1 := by
    rw [Array.toList_map, ← ez, List.map_map]; rfl
  have hzm : ∀ u ∈ zs, u ∈ ts := fun u hu => pz.mem_iff.mp hu
  have hsrt : zs.Pairwise fun x y => HT.lexLt y.2 x.2 = false := by
    have hKK : ∀ (i : Nat) (h : i < zs.length), KK (G.tupKindC h2 fun _ => false) (arrOf st') i = zs[i].2.map Sum.inl := fun i h => by
      have e2 : (arrOf st')[i]? = some (Value.ref zs[i].1, Value.ref zs[i].1) := by
        rw [← Array.getElem?_toList, ← ez, List.getElem?_map, List.getElem?_eq_getElem h]; rfl
      unfold KK
      rw [e2]
      show (G.tupKeyC h2 (fun _ => false) (.ref zs[i].1)).getD _ = _
      rw [hkey _ (hzm _ (List.getElem_mem h))]; rfl
    rw [List.pairwise_iff_getElem]
    intro i j hi hj hij
    have hsz : (pairsOf (ts.map fun u => Value.ref u.1)).size = zs.length := by
      rw [pairsOf_size, List.length_map, pz.length_eq]
    have h := hso i j (by omega) (by rw [hsz]; exact hj)
    rw [hKK i hi, hKK j hj] at h
    have h : PyProof.Rows.lexLt itemOrd (zs[j].2.map Sum.inl) (zs[i].2.map Sum.inl) = false := h
    rwa [lex_items] at h
  obtain ⟨eF, heF⟩ := PyProof.Rows.sortedHeap_at (vs := ts.map fun u => Value.ref u.1) (out := (arrOf st').map (fun x => x.2)) hob
  have ne0 : ∀ b o, h'.get? b = some o → b ≠ h'.objs.size := fun b o e => Nat.ne_of_lt (Heap.lt_size e)
  have kF : ∀ b o, h'.get? b = some o → (sortedHeap h2 h'.objs.size (ts.map fun u => Value.ref u.1) ((arrOf st').map (fun x => x.2))).get? b = some o := fun b o e =>
    (PyProof.Rows.sortedHeap_old (ne0 b o e) (Heap.lt_size (ka b o e))).trans (ka b o e)
  have heq : (arrOf st').map (fun x => x.2) = (zs.map fun u => Value.ref u.1).toArray := by rw [← hout]
  rw [heq] at heF kF ⊢
  refine ⟨.ref h'.objs.size, upd H h'.objs.size (.lst (zs.map fun u => V.ref u.1)), I1.laid (a := h'.objs.size) (t' := tk) (fun b o e => kF b o e) (Nat.le_refl _) ⟨?_, _, eF, vals_maps (fun u : Addr × List Int => V.ref u.1) (fun u => Value.ref u.1) zs fun _ _ => rfl, heF⟩, rfl, q zs _ ?_ hsrt (fun u hu => t3 u (hzm u hu)) (I1.hok.fresh (Nat.le_refl _))⟩
  · rw [List.length_map, pz.length_eq]; omega
  · rw [← t1]; exact pz.map _
end
end Sx

set_option Elab.async false
set_option linter.all false
set_option maxRecDepth 1000000
namespace Sx
/-! ### how many still rows: tables, held against their rules by the kernel -/
def tr0 : List Nat := [1]
def tr1 : List Nat := [0, 1, 0]
def tr2 : List Nat := [0, 2, 1, 0]
def tr3 : List Nat := [0, 4, 2, 2, 0]
def tr4 : List Nat := [0, 9, 5, 4, 4, 0]
def tr5 : List Nat := [0, 20, 11, 9, 9, 9, 0]
def tr6 : List Nat := [0, 49, 29, 24, 20, 20, 20, 0]
def tr7 : List Nat := [0, 117, 68, 57, 49, 49, 49, 49, 0]
def tr8 : List Nat := [0, 297, 180, 151, 133, 117, 117, 117, 117, 0]
def tr9 : List Nat := [0, 746, 449, 381, 333, 297, 297, 297, 297, 297, 0]
def tr10 : List Nat := [0, 1947, 1201, 1021, 907, 827, 746, 746, 746, 746, 746, 0]
def tr11 : List Nat := [0, 5021, 3074, 2625, 2323, 2127, 1947, 1947, 1947, 1947, 1947, 1947, 0]
def tr12 : List Nat := [0, 13378, 8357, 7156, 6394, 5862, 5421, 5021, 5021, 5021, 5021, 5021, 5021, 0]
def tr13 : List Nat := [0, 35237, 21859, 18785, 16743, 15411, 14358, 13378, 13378, 13378, 13378, 13378, 13378, 13378, 0]
def tr14 : List Nat := [0, 95123, 59886, 51529, 46279, 42651, 39978, 37638, 35237, 35237, 35237, 35237, 35237, 35237, 35237, 0]
def tr15 : List Nat := [0, 254825, 159702, 137843, 123531, 114239, 106796, 100856, 95123, 95123, 95123, 95123, 95123, 95123, 95123, 95123, 0]
def tr16 : List Nat := [0, 694987, 440162, 380276, 342706, 317130, 297987, 283067, 268514, 254825, 254825, 254825, 254825, 254825, 254825, 254825, 254825, 0]
def tr17 : List Nat := [0, 1882707, 1187720, 1028018, 924960, 857988, 805230, 766290, 729736, 694987, 694987, 694987, 694987, 694987, 694987, 694987, 694987, 694987, 0]
def tr18 : List Nat := [0, 5184391, 3301684, 2861522, 2585836, 2400720, 2262021, 2153601, 2058198, 1970916, 1882707, 1882707, 1882707, 1882707, 1882707, 1882707, 1882707, 1882707, 1882707, 0]
def tr19 : List Nat := [0, 14177587, 8993196, 7805476, 7044924, 6550800, 6166941, 5879781, 5633752, 5405953, 5184391, 5184391, 5184391, 5184391, 5184391, 5184391, 5184391, 5184391, 5184391, 5184391, 0]
def tr20 : List Nat := [0, 39289183, 25111596, 21809912, 19753876, 18383052, 17354901, 16555341, 15899819, 15312362, 14734103, 14177587, 14177587, 14177587, 14177587, 14177587, 14177587, 14177587, 14177587, 14177587, 14177587, 0]
def tr21 : List Nat := [0, 108337723, 69048540, 60055344, 54332300, 50632460, 47778290, 45642370, 43798108, 42232882, 40741645, 39289183, 39289183, 39289183, 39289183, 39289183, 39289183, 39289183, 39289183, 39289183, 39289183, 39289183, 0]
def tr22 : List Nat := [0, 301997384, 193659661, 168548065, 152937113, 142593769, 134871877, 128912137, 123970193, 119847464, 115874198, 112128532, 108337723, 108337723, 108337723, 108337723, 108337723, 108337723, 108337723, 108337723, 108337723, 108337723, 108337723, 0]
def tr23 : List Nat := [0, 837774846, 535777462, 466728922, 423109098, 394929402, 373322922, 357218322, 343348039, 332218648, 321753259, 311773271, 301997384, 301997384, 301997384, 301997384, 301997384, 301997384, 301997384, 301997384, 301997384, 301997384, 301997384, 301997384, 0]
def tr24 : List Nat := [0, 2347293253, 1509518407, 1315858746, 1195748058, 1116732554, 1057775354, 1012534934, 974986724, 943570586, 915319055, 889032253, 862985287, 837774846, 837774846, 837774846, 837774846, 837774846, 837774846, 837774846, 837774846, 837774846, 837774846, 837774846, 837774846, 0]
def tr25 : List Nat := [0, 6546903307, 4199610054, 3663832592, 3326736462, 3109407262, 2943959794, 2820620974, 2715094525, 2629715413, 2554032388, 2483070630, 2414464191, 2347293253, 2347293253, 2347293253, 2347293253, 2347293253, 2347293253, 2347293253, 2347293253, 2347293253, 2347293253, 2347293253, 2347293253, 2347293253, 0]
def tr26 : List Nat := [0, 18417850843, 11870947536, 10361429129, 9427971285, 8816222833, 8360530693, 8013432673, 7725323404, 7484514238, 7278103099, 7088003649, 6902799168, 6725874191, 6546903307, 6546903307, 6546903307, 6546903307, 6546903307, 6546903307, 6546903307, 6546903307, 6546903307, 6546903307, 6546903307, 6546903307, 6546903307, 0]
def tr27 : List Nat := [0, 51617715836, 33199864993, 29000254939, 26368537447, 24676101055, 23392757134, 22437191334, 21625979625, 20966830641, 20381468589, 19863008287, 19366864012, 18889251429, 18417850843, 18417850843, 18417850843, 18417850843, 18417850843, 18417850843, 18417850843, 18417850843, 18417850843, 18417850843, 18417850843, 18417850843, 18417850843, 18417850843, 0]
def tr28 : List Nat := [0, 145722478875, 94104763039, 82233815503, 74906150319, 70123158087, 66568793469, 63871355929, 61634879799, 59774600976, 58169032935, 56764533513, 55411393824, 54131917499, 52859362005, 51617715836, 51617715836, 51617715836, 51617715836, 51617715836, 51617715836, 51617715836, 51617715836, 51617715836, 51617715836, 51617715836, 51617715836, 51617715836, 51617715836, 0]
def tr29 : List Nat := [0, 409964137081, 264241658206, 231041793213, 210318934955, 197011989107, 186961396121, 179494937681, 173178242968, 168053864332, 163506092818, 159638537132, 155972906603, 152483376876, 149074328026, 145722478875, 145722478875, 145722478875, 145722478875, 145722478875, 145722478875, 145722478875, 145722478875, 145722478875, 145722478875, 145722478875, 145722478875, 145722478875, 145722478875, 145722478875, 0]
def tr30 : List Nat := [0, 1161300892672, 751336755591, 657231992552, 599231482674, 561519597534, 533534932176, 512379425096, 494875727318, 480371214737, 467828048783, 456836407945, 446742398668, 437289326821, 427991790735, 419012522210, 409964137081, 409964137081, 409964137081, 409964137081, 409964137081, 409964137081, 409964137081, 409964137081, 409964137081, 409964137081, 409964137081, 409964137081, 409964137081, 409964137081, 409964137081, 0]
def tr31 : List Nat := [0, 3278334740768, 2117033848096, 1852792189890, 1688324558884, 1582850409096, 1503504403599, 1444625207719, 1395010995953, 1354839275390, 1319244578582, 1288851311412, 1261247549523, 1235216722312, 1210029868066, 1185540611147, 1161300892672, 1161300892672, 1161300892672, 1161300892672, 1161300892672, 1161300892672, 1161300892672, 1161300892672, 1161300892672, 1161300892672, 1161300892672, 1161300892672, 1161300892672, 1161300892672, 1161300892672, 1161300892672, 0]
def tr32 : List Nat := [0, 9310829374793, 6032494634025, 5281157878434, 4819074292008, 4519449690732, 4297364781237, 4130154167377, 3991943739651, 3877870292943, 3779201354487, 3692759202779, 3616263163478, 3545077499151, 3475720716353, 3409379769794, 3343270521393, 3278334740768, 3278334740768, 3278334740768, 3278334740768, 3278334740768, 3278334740768, 3278334740768, 3278334740768, 3278334740768, 3278334740768, 3278334740768, 3278334740768, 3278334740768, 3278334740768, 3278334740768, 3278334740768, 0]
def tr33 : List Nat := [0, 26368112728163, 17057283353370, 14940249505274, 13625785520170, 12784509780350, 12153401357567, 11685546214887, 11292888013910, 10975221954485, 10694981490443, 10454953559229, 10236639307425, 10039368319582, 9849700560696, 9667018175029, 9487929437068, 9310829374793, 9310829374793, 9310829374793, 9310829374793, 9310829374793, 9310829374793, 9310829374793, 9310829374793, 9310829374793, 9310829374793, 9310829374793, 9310829374793, 9310829374793, 9310829374793, 9310829374793, 9310829374793, 9310829374793, 0]
def tr34 : List Nat := [0, 75074948034145, 48706835305982, 42674340671957, 38968756292177, 36571830361481, 34798722459518, 33467346590138, 32367924214772, 31464061376504, 30683035898843, 30000207883813, 29393185325176, 28849221617993, 28323610927819, 27824035294700, 27330880469607, 26851119658332, 26368112728163, 26368112728163, 26368112728163, 26368112728163, 26368112728163, 26368112728163, 26368112728163, 26368112728163, 26368112728163, 26368112728163, 26368112728163, 26368112728163, 26368112728163, 26368112728163, 26368112728163, 26368112728163, 26368112728163, 0]
def tr35 : List Nat := [0, 213163076256975, 138088128222830, 121030844869460, 110468529112592, 103715230877056, 98661554499250, 94922326576830, 91792630136309, 89262390520184, 87039489791498, 85134181630050, 83403235833459, 81886906968395, 80437564910101, 79053131968730, 77704517360529, 76383404923954, 75074948034145, 75074948034145, 75074948034145, 75074948034145, 75074948034145, 75074948034145, 75074948034145, 75074948034145, 75074948034145, 75074948034145, 75074948034145, 75074948034145, 75074948034145, 75074948034145, 75074948034145, 75074948034145, 75074948034145, 75074948034145, 0]
def tr36 : List Nat := [0, 608292266367669, 395129190110694, 346422354804712, 316541855794164, 297265558626132, 283019904944268, 272349206300748, 263553954354379, 256342673417896, 250115524717519, 244686059805665, 239851521289055, 235518472163028, 231478351159876, 227660854814525, 223923549860016, 220310746252741, 216707661904824, 213163076256975, 213163076256975, 213163076256975, 213163076256975, 213163076256975, 213163076256975, 213163076256975, 213163076256975, 213163076256975, 213163076256975, 213163076256975, 213163076256975, 213163076256975, 213163076256975, 213163076256975, 213163076256975, 213163076256975, 213163076256975, 0]
def tr37 : List Nat := [0, 1731299502668676, 1123007236301007, 984919108078177, 899570426734263, 845067284653583, 804392237436995, 774322149365015, 749215557535311, 728953703108055, 711200646618183, 695996071050789, 682195727946186, 670072703243175, 658864951353387, 648223469533379, 637918060308450, 627906194250475, 618052955594106, 608292266367669, 608292266367669, 608292266367669, 608292266367669, 608292266367669, 608292266367669, 608292266367669, 608292266367669, 608292266367669, 608292266367669, 608292266367669, 608292266367669, 608292266367669, 608292266367669, 608292266367669, 608292266367669, 608292266367669, 608292266367669, 608292266367669, 0]
def tr38 : List Nat := [0, 4950130659874786, 3218831157206110, 2823701967095416, 2581640277356496, 2425765252187788, 2310704664164638, 2224757368539898, 2153970733361667, 2096070273265461, 2046158275558857, 2002764176989347, 1964090899854558, 1929431945232030, 1898029856093396, 1868509183844894, 1839782286686662, 1812175126423187, 1784869654997566, 1758177412709557, 1731299502668676, 1731299502668676, 1731299502668676, 1731299502668676, 1731299502668676, 1731299502668676, 1731299502668676, 1731299502668676, 1731299502668676, 1731299502668676, 1731299502668676, 1731299502668676, 1731299502668676, 1731299502668676, 1731299502668676, 1731299502668676, 1731299502668676, 1731299502668676, 1731299502668676, 0]
def tr39 : List Nat := [0, 14120307030950710, 9170176371075924, 8047169134774917, 7354324425165493, 6912450308715125, 6583303835461796, 6340235808310456, 6137858254108983, 5974641967582482, 5831971716805593, 5709996171563365, 5599475624813554, 5502234600609302, 5412255855682104, 5329544283326143, 5249852626650085, 5172896143272285, 5097602834177684, 5023632814319303, 4950130659874786, 4950130659874786, 4950130659874786, 4950130659874786, 4950130659874786, 4950130659874786, 4950130659874786, 4950130659874786, 4950130659874786, 4950130659874786, 4950130659874786, 4950130659874786, 4950130659874786, 4950130659874786, 4950130659874786, 4950130659874786, 4950130659874786, 4950130659874786, 4950130659874786, 4950130659874786, 0]
def tr40 : List Nat := [0, 40443643490900571, 26323336459949861, 23104505302743751, 21134667086587397, 19868499663410741, 18935062585517237, 18239088136326877, 17666496371797414, 17199438954258247, 16797051689467417, 16448051965075299, 16137235733279295, 15859015124888991, 15606314719271829, 15375621487443070, 15152339911337951, 14938853936206001, 14728969680291993, 14525001490835832, 14321311004093279, 14120307030950710, 14120307030950710, 14120307030950710, 14120307030950710, 14120307030950710, 14120307030950710, 14120307030950710, 14120307030950710, 14120307030950710, 14120307030950710, 14120307030950710, 14120307030950710, 14120307030950710, 14120307030950710, 14120307030950710, 14120307030950710, 14120307030950710, 14120307030950710, 14120307030950710, 14120307030950710, 0]
def tr41 : List Nat := [0, 115585005206000694, 75141361715100123, 65971185344024199, 60323781409833367, 56725499702896315, 54050109675261127, 52076878585276127, 50436978602359365, 49115710704731895, 47963983227727824, 46979826772105652, 46090366285836737, 45307226321783074, 44583049529481452, 43934059719326661, 43311298636054900, 42713149632859175, 42130907005962173, 41562334417123685, 41000669301041992, 40443643490900571, 40443643490900571, 40443643490900571, 40443643490900571, 40443643490900571, 40443643490900571, 40443643490900571, 40443643490900571, 40443643490900571, 40443643490900571, 40443643490900571, 40443643490900571, 40443643490900571, 40443643490900571, 40443643490900571, 40443643490900571, 40443643490900571, 40443643490900571, 40443643490900571, 40443643490900571, 40443643490900571, 0]
def tr42 : List Nat := [0, 331626609857476351, 216041604651475657, 189718268191525796, 173623929921975962, 163297368812549978, 155691763250667731, 150031365151782371, 145380171149517701, 141593124016389377, 138333483095907332, 135514198885460030, 133004805382140866, 130761711798428838, 128721789182581710, 126859183843611525, 125107222617872836, 123438907982666561, 121807569686643850, 120230285119655728, 118664612600022584, 117128645106808183, 115585005206000694, 115585005206000694, 115585005206000694, 115585005206000694, 115585005206000694, 115585005206000694, 115585005206000694, 115585005206000694, 115585005206000694, 115585005206000694, 115585005206000694, 115585005206000694, 115585005206000694, 115585005206000694, 115585005206000694, 115585005206000694, 115585005206000694, 115585005206000694, 115585005206000694, 115585005206000694, 115585005206000694, 0]
def tr43 : List Nat := [0, 949428353968283144, 617801744110806793, 542660382395706670, 496451371790219168, 467034074089557196, 445202186819867104, 429114342071127204, 415769230962390552, 405029493236442399, 395684667007620711, 387706210815750233, 380516408647939520, 374183684701784537, 368333628087573199, 363080695990921037, 358170664007453209, 353477335166385734, 348927322477763725, 344508057039287854, 340164704667659068, 335883110482226660, 331626609857476351, 331626609857476351, 331626609857476351, 331626609857476351, 331626609857476351, 331626609857476351, 331626609857476351, 331626609857476351, 331626609857476351, 331626609857476351, 331626609857476351, 331626609857476351, 331626609857476351, 331626609857476351, 331626609857476351, 331626609857476351, 331626609857476351, 331626609857476351, 331626609857476351, 331626609857476351, 331626609857476351, 331626609857476351, 0]
def tr44 : List Nat := [0, 2727892814267693393, 1778464460299410249, 1562422855647934592, 1430480484959886194, 1345941816613536606, 1283729763835100481, 1237515670551807721, 1199573885232921986, 1168738072573459643, 1142227142588964995, 1119337597808428117, 1098981803228609254, 1080824545884786216, 1064299816573696280, 1049218669843567085, 1035357110485540460, 1022203626047631760, 1009403459143807719, 997077558459395670, 984908272444181747, 973030646678605145, 961165416193107873, 949428353968283144, 949428353968283144, 949428353968283144, 949428353968283144, 949428353968283144, 949428353968283144, 949428353968283144, 949428353968283144, 949428353968283144, 949428353968283144, 949428353968283144, 949428353968283144, 949428353968283144, 949428353968283144, 949428353968283144, 949428353968283144, 949428353968283144, 949428353968283144, 949428353968283144, 949428353968283144, 949428353968283144, 949428353968283144, 0]
def tr45 : List Nat := [0, 7822804989060917629, 5094912174793224236, 4477110430682417443, 4097673894299365851, 3856378768660032383, 3677562271689335714, 3545896194980099794, 3436883083921644792, 3349224863690013405, 3273091089684898293, 3208159630300440785, 3149749225550656874, 3098351059588075949, 3050925012804433871, 3008287190343392229, 2968429462193210399, 2931295731513888524, 2895422090038174392, 2860746673331102391, 2826804966748421354, 2793526012439500843, 2760610523202210025, 2727892814267693393, 2727892814267693393, 2727892814267693393, 2727892814267693393, 2727892814267693393, 2727892814267693393, 2727892814267693393, 2727892814267693393, 2727892814267693393, 2727892814267693393, 2727892814267693393, 2727892814267693393, 2727892814267693393, 2727892814267693393, 2727892814267693393, 2727892814267693393, 2727892814267693393, 2727892814267693393, 2727892814267693393, 2727892814267693393, 2727892814267693393, 2727892814267693393, 2727892814267693393, 0]
def tr46 : List Nat := [0, 22507203767845240683, 14684398778784323054, 12905934318484912805, 11820613553693499465, 11126117834005595617, 10615588336679528782, 10236887084969184042, 9926215530361971698, 9674200954558656659, 9457701704735564324, 9271115523296295150, 9105359271662587800, 8957776088144879104, 8823469418765511108, 8700995447883380447, 8588223268329244366, 8483754157097578541, 8382478928671678916, 8285297893743230864, 8189812553593439251, 8096993262377859042, 8004770028206076743, 7914007409003761085, 7822804989060917629, 7822804989060917629, 7822804989060917629, 7822804989060917629, 7822804989060917629, 7822804989060917629, 7822804989060917629, 7822804989060917629, 7822804989060917629, 7822804989060917629, 7822804989060917629, 7822804989060917629, 7822804989060917629, 7822804989060917629, 7822804989060917629, 7822804989060917629, 7822804989060917629, 7822804989060917629, 7822804989060917629, 7822804989060917629, 7822804989060917629, 7822804989060917629, 7822804989060917629, 0]
def tr47 : List Nat := [0, 64636540113649351234, 42129336345804110551, 37034424171010886315, 33909578459715017131, 31923772972554140459, 30454096653241190657, 29373094459735968117, 28479379141055951144, 27761249725325200133, 27138716854165358216, 26608161171788193698, 26131757413346563943, 25712989766226766304, 25327044879421255950, 24979970980764010998, 24655660548921896336, 24359732048946753936, 24074812303209240989, 23800459572173926364, 23532853150753210488, 23271732468073554647, 23014509985961526466, 22760209579718243547, 22507203767845240683, 22507203767845240683, 22507203767845240683, 22507203767845240683, 22507203767845240683, 22507203767845240683, 22507203767845240683, 22507203767845240683, 22507203767845240683, 22507203767845240683, 22507203767845240683, 22507203767845240683, 22507203767845240683, 22507203767845240683, 22507203767845240683, 22507203767845240683, 22507203767845240683, 22507203767845240683, 22507203767845240683, 22507203767845240683, 22507203767845240683, 22507203767845240683, 22507203767845240683, 22507203767845240683, 0]
def tr48 : List Nat := [0, 186204709604922995734, 121568169491273644500, 106883770712489321446, 97929549851124486560, 92207627911284941784, 88004321244478927020, 84890485979465572400, 82338718928787042177, 80271738853286744739, 78497270188914747585, 76970836115347840263, 75615731765011954080, 74411437276619608925, 73315954235196420615, 72317915156932862512, 71398359387069578945, 70546410476455607720, 69739321452960172456, 68967479102328814189, 68211996794351574064, 67480182137345406332, 66756559825108075063, 66047283228126525102, 65338406806239674950, 64636540113649351234, 64636540113649351234, 64636540113649351234, 64636540113649351234, 64636540113649351234, 64636540113649351234, 64636540113649351234, 64636540113649351234, 64636540113649351234, 64636540113649351234, 64636540113649351234, 64636540113649351234, 64636540113649351234, 64636540113649351234, 64636540113649351234, 64636540113649351234, 64636540113649351234, 64636540113649351234, 64636540113649351234, 64636540113649351234, 64636540113649351234, 64636540113649351234, 64636540113649351234, 64636540113649351234, 0]
def tr49 : List Nat := [0, 535467899713794639243, 349263190108871643509, 307133853763067532958, 281321985126097707348, 264931289548900243944, 252817813199378414490, 243913769462981072410, 236562232570543736231, 230661106074067690526, 225552872704652991167, 221202221803916018789, 217302839951317760180, 213877535201299960274, 210726769080702971690, 207892390605965742753, 205245684896627994653, 202827923277827141553, 200549523251345011537, 198363133931605188433, 196237719548999685762, 194171726426893711137, 192143708543371109149, 190148360520486858660, 188171212848471909772, 186204709604922995734, 186204709604922995734, 186204709604922995734, 186204709604922995734, 186204709604922995734, 186204709604922995734, 186204709604922995734, 186204709604922995734, 186204709604922995734, 186204709604922995734, 186204709604922995734, 186204709604922995734, 186204709604922995734, 186204709604922995734, 186204709604922995734, 186204709604922995734, 186204709604922995734, 186204709604922995734, 186204709604922995734, 186204709604922995734, 186204709604922995734, 186204709604922995734, 186204709604922995734, 186204709604922995734, 186204709604922995734, 0]
def tr50 : List Nat := [0, 1544325797516694296115, 1008857897802899656872, 887289728311626012372, 813220879969604239742, 765938425754830241882, 731231016836889950435, 705556421560187940815, 684529818798702707819, 667520338774209136802, 652932972694903763987, 640402372134561070905, 629285009588527199250, 619423309180357463532, 610459076556370268382, 602302473896549717770, 594782702824288213980, 587818111208620610205, 581347205833921347514, 575175062069134248538, 569154424172873565786, 563342121952527762239, 557616804812794253114, 552024659012660971686, 546462516239172776974, 540977685329373961252, 535467899713794639243, 535467899713794639243, 535467899713794639243, 535467899713794639243, 535467899713794639243, 535467899713794639243, 535467899713794639243, 535467899713794639243, 535467899713794639243, 535467899713794639243, 535467899713794639243, 535467899713794639243, 535467899713794639243, 535467899713794639243, 535467899713794639243, 535467899713794639243, 535467899713794639243, 535467899713794639243, 535467899713794639243, 535467899713794639243, 535467899713794639243, 535467899713794639243, 535467899713794639243, 535467899713794639243, 535467899713794639243, 0]
def tr51 : List Nat := [0, 4446680712940545850828, 2902354915423851554713, 2553091725314979911204, 2339324183890001268312, 2203685870051141199788, 2103550809545090839235, 2029999564111304124955, 1969361296254265546626, 1920716296231665852042, 1878663138398798207073, 1842882006910913250369, 1810857649734911643216, 1782742682622722788582, 1756930742059408691242, 1733714317768569393523, 1712058534276047331948, 1692257480639650529523, 1673596301541665347839, 1656066737901936943188, 1639070568776911990900, 1622606124337877048436, 1606498968332664553613, 1590711726781431451988, 1575123311630904078964, 1559693299477258783786, 1544325797516694296115, 1544325797516694296115, 1544325797516694296115, 1544325797516694296115, 1544325797516694296115, 1544325797516694296115, 1544325797516694296115, 1544325797516694296115, 1544325797516694296115, 1544325797516694296115, 1544325797516694296115, 1544325797516694296115, 1544325797516694296115, 1544325797516694296115, 1544325797516694296115, 1544325797516694296115, 1544325797516694296115, 1544325797516694296115, 1544325797516694296115, 1544325797516694296115, 1544325797516694296115, 1544325797516694296115, 1544325797516694296115, 1544325797516694296115, 1544325797516694296115, 1544325797516694296115, 0]
def tr52 : List Nat := [0, 12837993161214142219403, 8391312448273596368575, 7382454550470696711703, 6768186842944561645787, 6376468643540063699547, 6089154686787076435416, 5876842920053485859776, 5703094006499460969870, 5562743861927209097508, 5442450102435985705005, 5339253324046438835333, 5247783601321149130889, 5166758540704353790694, 5093149646217402548538, 5026268768178239553686, 4964607807085815943069, 4907546488492737365869, 4854461015054853347271, 4804817584644751770030, 4756546604631539313967, 4710067728629178547151, 4664441165338924980175, 4620026584215909573612, 4576018776805664310612, 4532774752870287649356, 4489542655851753387077, 4446680712940545850828, 4446680712940545850828, 4446680712940545850828, 4446680712940545850828, 4446680712940545850828, 4446680712940545850828, 4446680712940545850828, 4446680712940545850828, 4446680712940545850828, 4446680712940545850828, 4446680712940545850828, 4446680712940545850828, 4446680712940545850828, 4446680712940545850828, 4446680712940545850828, 4446680712940545850828, 4446680712940545850828, 4446680712940545850828, 4446680712940545850828, 4446680712940545850828, 4446680712940545850828, 4446680712940545850828, 4446680712940545850828, 4446680712940545850828, 4446680712940545850828, 4446680712940545850828, 0]
def tr53 : List Nat := [0, 37007026335009462391464, 24169033173795320172061, 21266678258371468617348, 19492098801748216592604, 18366810861243825763212, 17536942210042261287156, 16927860276977437474016, 16426252809813947455958, 16024137488995115015294, 15677022281440797501323, 15381841519853112450917, 15117995374623121772507, 14886575645501935516030, 14674413741161170594432, 14483702081574500295784, 14305963882479622443822, 14143406412761521672572, 13990293308155567963205, 13848949177967046932690, 13712246571652173228957, 13580241478148889864466, 13451438384583598351922, 13325625690153646486066, 13201817593221367089962, 13079734965923125711712, 12958573049806011657204, 12837993161214142219403, 12837993161214142219403, 12837993161214142219403, 12837993161214142219403, 12837993161214142219403, 12837993161214142219403, 12837993161214142219403, 12837993161214142219403, 12837993161214142219403, 12837993161214142219403, 12837993161214142219403, 12837993161214142219403, 12837993161214142219403, 12837993161214142219403, 12837993161214142219403, 12837993161214142219403, 12837993161214142219403, 12837993161214142219403, 12837993161214142219403, 12837993161214142219403, 12837993161214142219403, 12837993161214142219403, 12837993161214142219403, 12837993161214142219403, 12837993161214142219403, 12837993161214142219403, 12837993161214142219403, 0]
def tr54 : List Nat := [0, 106952670126653470663152, 69945643791644008271688, 61554331343370411903113, 56448147892740452080705, 53195264372862035121737, 50810882766921932926241, 49050796342032354385841, 47611514713505291948108, 46450147496452941259442, 45455427711937007278157, 44603326263565639391887, 43848462271107373688236, 43180645143283644400050, 42574525069550830436078, 42024605357787848997605, 41517643116925016297016, 41048820595720087652866, 40612433953496532784041, 40204436921474687305473, 39815219036560998274778, 39441382824331659992097, 39075567945143642227978, 38720400624097041836714, 38369690792473233066666, 38026233150664675402140, 37684179759190952871765, 37346243564684458202113, 37007026335009462391464, 37007026335009462391464, 37007026335009462391464, 37007026335009462391464, 37007026335009462391464, 37007026335009462391464, 37007026335009462391464, 37007026335009462391464, 37007026335009462391464, 37007026335009462391464, 37007026335009462391464, 37007026335009462391464, 37007026335009462391464, 37007026335009462391464, 37007026335009462391464, 37007026335009462391464, 37007026335009462391464, 37007026335009462391464, 37007026335009462391464, 37007026335009462391464, 37007026335009462391464, 37007026335009462391464, 37007026335009462391464, 37007026335009462391464, 37007026335009462391464, 37007026335009462391464, 37007026335009462391464, 0]
def tr55 : List Nat := [0, 308630891790971026032157, 201678221664317555369005, 177509188490522235196944, 162744279389580841773538, 153386982654020836700290, 146493536822227364523352, 141437180558239796233552, 137277546745245983185952, 133945459385742436902104, 131072221702238515874381, 128630495749333581747803, 126451145446400572204004, 124540572558579267874084, 122791242378139886879320, 121220269461869548955196, 119757694219119501807586, 118419900523533393897461, 117160462368945922433892, 115996849743078209908950, 114891729008999235031725, 113827347401724665323610, 112791365795383239962781, 111782651741676652746442, 110792603226088398595530, 109819694549570451267018, 108857388496628252852525, 107903357517777277712900, 106952670126653470663152, 106952670126653470663152, 106952670126653470663152, 106952670126653470663152, 106952670126653470663152, 106952670126653470663152, 106952670126653470663152, 106952670126653470663152, 106952670126653470663152, 106952670126653470663152, 106952670126653470663152, 106952670126653470663152, 106952670126653470663152, 106952670126653470663152, 106952670126653470663152, 106952670126653470663152, 106952670126653470663152, 106952670126653470663152, 106952670126653470663152, 106952670126653470663152, 106952670126653470663152, 106952670126653470663152, 106952670126653470663152, 106952670126653470663152, 106952670126653470663152, 106952670126653470663152, 106952670126653470663152, 106952670126653470663152, 0]
def tr56 : List Nat := [0, 892757559042241410829894, 584126667251270384797737, 514181023459626376526049, 471647666942883439291353, 444574919571105192708205, 424741746740644921910113, 410117126403907122901413, 398165351700221050353323, 388531721585552966418614, 380286630417131381979113, 373231184945398650993409, 366984898145203692785014, 361466910511192845720680, 356461081177252372184694, 351925311491825740469424, 347746171929144230495121, 343884976911237537131546, 340289881339313161596251, 336929494745761659105089, 333775869794635513250510, 330753731735814615831185, 327804098363785602677650, 324947437071009105284801, 322135590956951263743289, 319389084574367902621561, 316663170824296039879545, 313979175259489039652678, 311295280379097071211053, 308630891790971026032157, 308630891790971026032157, 308630891790971026032157, 308630891790971026032157, 308630891790971026032157, 308630891790971026032157, 308630891790971026032157, 308630891790971026032157, 308630891790971026032157, 308630891790971026032157, 308630891790971026032157, 308630891790971026032157, 308630891790971026032157, 308630891790971026032157, 308630891790971026032157, 308630891790971026032157, 308630891790971026032157, 308630891790971026032157, 308630891790971026032157, 308630891790971026032157, 308630891790971026032157, 308630891790971026032157, 308630891790971026032157, 308630891790971026032157, 308630891790971026032157, 308630891790971026032157, 308630891790971026032157, 308630891790971026032157, 0]
def tr57 : List Nat := [0, 2578835276893083831660115, 1686077717850842420830221, 1484399496186524865461216, 1361290833499784041654990, 1283322438292791175284574, 1225934220500930601988651, 1183863204310028785203951, 1149290939653579576104016, 1121613158442825958964989, 1097772452003399795777506, 1077526969230192438548370, 1059476107306334551891320, 1043661216444844703726966, 1029201945669998033729318, 1016222973617076216916155, 1004155747472320357823580, 993118945797387667931080, 982736636516825667914093, 973139343977699503003505, 964024264822844790078718, 955400148294989988844015, 947025145183086743042590, 938891696258724147490755, 930928595193801818365163, 923128216548202336508285, 915433003530122106069981, 907830078875465737203677, 900279420547728673794394, 892757559042241410829894, 892757559042241410829894, 892757559042241410829894, 892757559042241410829894, 892757559042241410829894, 892757559042241410829894, 892757559042241410829894, 892757559042241410829894, 892757559042241410829894, 892757559042241410829894, 892757559042241410829894, 892757559042241410829894, 892757559042241410829894, 892757559042241410829894, 892757559042241410829894, 892757559042241410829894, 892757559042241410829894, 892757559042241410829894, 892757559042241410829894, 892757559042241410829894, 892757559042241410829894, 892757559042241410829894, 892757559042241410829894, 892757559042241410829894, 892757559042241410829894, 892757559042241410829894, 892757559042241410829894, 892757559042241410829894, 892757559042241410829894, 0]
def tr58 : List Nat := [0, 7466076944865566328644525, 4887241667972482496984410, 4303115000721212112186673, 3948096623740167641792785, 3722304032169205833469965, 3557002734418011401601057, 3435219640682269872892737, 3335749662040815970769942, 3255659673241367753955119, 3187153324737369649868897, 3128594361176439248170487, 3076788271374967635040481, 3031070262471949781696681, 2989620521996780501650959, 2952117789360173165832599, 2917580464315428784030048, 2885700016311829338596348, 2856014932587937439140623, 2828284598268063941875572, 2802240121518202276276099, 2777694472196060390111287, 2753795166025256297486860, 2730701563715900263118935, 2708029125805652530442255, 2685938584225505133254357, 2664083337254219316082728, 2642620396698432309162952, 2621231730073356661440456, 2600070317742558652925740, 2578835276893083831660115, 2578835276893083831660115, 2578835276893083831660115, 2578835276893083831660115, 2578835276893083831660115, 2578835276893083831660115, 2578835276893083831660115, 2578835276893083831660115, 2578835276893083831660115, 2578835276893083831660115, 2578835276893083831660115, 2578835276893083831660115, 2578835276893083831660115, 2578835276893083831660115, 2578835276893083831660115, 2578835276893083831660115, 2578835276893083831660115, 2578835276893083831660115, 2578835276893083831660115, 2578835276893083831660115, 2578835276893083831660115, 2578835276893083831660115, 2578835276893083831660115, 2578835276893083831660115, 2578835276893083831660115, 2578835276893083831660115, 2578835276893083831660115, 2578835276893083831660115, 2578835276893083831660115, 0]
def tr59 : List Nat := [0, 21586152650294023447835757, 14120075705428457119191232, 12433997987577614698361011, 11405635940658361945308913, 10754658823100038578214761, 10275901443744280262119128, 9925162599543435036376008, 9637197296460814229246984, 9406782024799065160291742, 9208528484183125046661548, 9040266041145453915250966, 8890403823228871670258905, 8759196269256458572701102, 8639359140749256380047790, 8531853696073066543735363, 8432048868541536911908908, 8340778029085837647925483, 8254989592743688162695776, 8175669439207214137853465, 8100366152203138267955153, 8030185244111396080333771, 7962163901123237480602063, 7896262902066454740324376, 7831888210671455778570976, 7768992307643691948454306, 7707098614542531515470067, 7646141514917786481329616, 7585761634648896386062192, 7525817935170859955308400, 7466076944865566328644525, 7466076944865566328644525, 7466076944865566328644525, 7466076944865566328644525, 7466076944865566328644525, 7466076944865566328644525, 7466076944865566328644525, 7466076944865566328644525, 7466076944865566328644525, 7466076944865566328644525, 7466076944865566328644525, 7466076944865566328644525, 7466076944865566328644525, 7466076944865566328644525, 7466076944865566328644525, 7466076944865566328644525, 7466076944865566328644525, 7466076944865566328644525, 7466076944865566328644525, 7466076944865566328644525, 7466076944865566328644525, 7466076944865566328644525, 7466076944865566328644525, 7466076944865566328644525, 7466076944865566328644525, 7466076944865566328644525, 7466076944865566328644525, 7466076944865566328644525, 7466076944865566328644525, 7466076944865566328644525, 0]
def tr60 : List Nat := [0, 62545845853518741368582768, 40959693203224717920747011, 36072451535252235423762601, 33103652542879185692840169, 31217061875107651935674757, 29836579031221464405372147, 28820361375883025746847327, 27990896222311131310620543, 27323634223550694377145753, 26753181483569889619089279, 26266093485939491411154977, 25835412760087266922572794, 25455746170895141901137114, 25111757793802560221522202, 24800845201893519906609606, 24514687899486485407610439, 24250853023807007559890939, 24005190871071726637775481, 23775862906969694454873531, 23560387514478568176472696, 23357345881763978357334923, 23162859292394247133095085, 22975294246444090351830337, 22791591573293623131652441, 22613008909909549644601591, 22436785990919675472477906, 22264156506500316335742865, 22092671039850755917742366, 21923450888786506569340318, 21754223243986592407036318, 21586152650294023447835757, 21586152650294023447835757, 21586152650294023447835757, 21586152650294023447835757, 21586152650294023447835757, 21586152650294023447835757, 21586152650294023447835757, 21586152650294023447835757, 21586152650294023447835757, 21586152650294023447835757, 21586152650294023447835757, 21586152650294023447835757, 21586152650294023447835757, 21586152650294023447835757, 21586152650294023447835757, 21586152650294023447835757, 21586152650294023447835757, 21586152650294023447835757, 21586152650294023447835757, 21586152650294023447835757, 21586152650294023447835757, 21586152650294023447835757, 21586152650294023447835757, 21586152650294023447835757, 21586152650294023447835757, 21586152650294023447835757, 21586152650294023447835757, 21586152650294023447835757, 21586152650294023447835757, 21586152650294023447835757, 0]
def tr61 : List Nat := [0, 180990554853741203579642751, 118444709000222462211059983, 104324633294794005091868751, 95718403293351580867495405, 90273239959352444700875445, 86272065683212497966501600, 83342194946767950676034560, 80938705926008365311128351, 79016834347260133458781265, 77364699420267752356821389, 75963216719022248894344931, 74716353300476258489292896, 73625275741080692015429116, 72629799533194074887230466, 71737350452777908091320316, 70909685662788897293060335, 70153255625085512453135160, 69442837393629546999148040, 68785909481109403889744465, 68162588673007626810402817, 67581298116933874778169513, 67026522789978665668999583, 66490236905735343888647305, 65967388985008902717903721, 65457777025229737842049747, 64957420774543015930360072, 64465912348985418880942557, 63980268381746702941551148, 63499664636881156326229200, 63021937571874412844953200, 62545845853518741368582768, 62545845853518741368582768, 62545845853518741368582768, 62545845853518741368582768, 62545845853518741368582768, 62545845853518741368582768, 62545845853518741368582768, 62545845853518741368582768, 62545845853518741368582768, 62545845853518741368582768, 62545845853518741368582768, 62545845853518741368582768, 62545845853518741368582768, 62545845853518741368582768, 62545845853518741368582768, 62545845853518741368582768, 62545845853518741368582768, 62545845853518741368582768, 62545845853518741368582768, 62545845853518741368582768, 62545845853518741368582768, 62545845853518741368582768, 62545845853518741368582768, 62545845853518741368582768, 62545845853518741368582768, 62545845853518741368582768, 62545845853518741368582768, 62545845853518741368582768, 62545845853518741368582768, 62545845853518741368582768, 62545845853518741368582768, 0]
def tr62 : List Nat := [0, 524809997889598596570215095, 343819443035857392990572344, 302859749832632675069825333, 277991753857477445673103311, 262199367362516775105932171, 250649465417881654528371005, 242154630483068756090168745, 235224208635715006074724697, 229653661414234886916796061, 224894492580003337757253743, 220834424803586092421320013, 217246333536130544322851570, 214086693502986549255417320, 211225439837063558386871748, 208642005557677942113660993, 206265835778074727095498239, 204077341783722727399932289, 202040129357165084556303101, 200139718398810823757087768, 198353653928468853160400854, 196671276059510736773776046, 195082278349209985404952553, 193552516437415894958319223, 192057589927675515818759399, 190607150753447389193835503, 189179310420750480932798246, 187783752371873398123481921, 186401033176934539442447686, 185039971427000606994158418, 183683174290123604594160543, 182339174617061987642942335, 180990554853741203579642751, 180990554853741203579642751, 180990554853741203579642751, 180990554853741203579642751, 180990554853741203579642751, 180990554853741203579642751, 180990554853741203579642751, 180990554853741203579642751, 180990554853741203579642751, 180990554853741203579642751, 180990554853741203579642751, 180990554853741203579642751, 180990554853741203579642751, 180990554853741203579642751, 180990554853741203579642751, 180990554853741203579642751, 180990554853741203579642751, 180990554853741203579642751, 180990554853741203579642751, 180990554853741203579642751, 180990554853741203579642751, 180990554853741203579642751, 180990554853741203579642751, 180990554853741203579642751, 180990554853741203579642751, 180990554853741203579642751, 180990554853741203579642751, 180990554853741203579642751, 180990554853741203579642751, 180990554853741203579642751, 180990554853741203579642751, 0]
def tr63 : List Nat := [0, 1519909683286607213750164699, 995099685397008617179949604, 876654976396786154968889621, 804510073326281684121364419, 758887529563648236340128767, 725386793274125383838899082, 700868108864106771799126062, 680772369670315322776956825, 664710896701121542744200441, 650915202894675019190146167, 639220144272720184254159209, 628824618050801767841765858, 619732301791482776481178322, 611445656761267954334047226, 604020277599171223720606696, 597141180555698299039877720, 590858301856319276806056520, 584962203005940501988582553, 579510971569071000793543409, 574341731648692136016556439, 569519016953937093493647523, 564917128181793652245863034, 560535555936165713164323201, 556271260151541791711380561, 552124165200285314490947605, 548060297558748875821704577, 544077866908443858767723194, 540151861164707858479343269, 536276663830678895044123049, 532434237080675543659066424, 528617130950530104681067191, 524809997889598596570215095, 524809997889598596570215095, 524809997889598596570215095, 524809997889598596570215095, 524809997889598596570215095, 524809997889598596570215095, 524809997889598596570215095, 524809997889598596570215095, 524809997889598596570215095, 524809997889598596570215095, 524809997889598596570215095, 524809997889598596570215095, 524809997889598596570215095, 524809997889598596570215095, 524809997889598596570215095, 524809997889598596570215095, 524809997889598596570215095, 524809997889598596570215095, 524809997889598596570215095, 524809997889598596570215095, 524809997889598596570215095, 524809997889598596570215095, 524809997889598596570215095, 524809997889598596570215095, 524809997889598596570215095, 524809997889598596570215095, 524809997889598596570215095, 524809997889598596570215095, 524809997889598596570215095, 524809997889598596570215095, 524809997889598596570215095, 524809997889598596570215095, 0]
def tr64 : List Nat := [0, 4410287473976736173653905686, 2890377790690128959903740987, 2546558347654271566913168643, 2337909081064683556729431141, 2205494470893166813958070465, 2108702541485266466754137616, 2037562486796906238722116476, 1979553189785714828247122877, 1932967843636788965355784086, 1893186042199223461595859198, 1859276293126118454166354076, 1829327847686964444224418677, 1802978726224730954438225008, 1779129194616604168972575012, 1757618448135987349825598478, 1737843100264376070477704859, 1719649013333566065023045234, 1702719316236064707345326402, 1686937564479702036748420790, 1672106335173204329492441909, 1658142712453607240130537420, 1644946139459261818638318640, 1632423923182300557513938878, 1620210048648619957267832614, 1608380410600292508963991954, 1596761002300899985961373096, 1585426351861470975731661564, 1574222915630560822692066597, 1563219924533600688629110497, 1552279817004653271087923622, 1541469836423597394066611419, 1530657161959133603511394523, 1519909683286607213750164699, 1519909683286607213750164699, 1519909683286607213750164699, 1519909683286607213750164699, 1519909683286607213750164699, 1519909683286607213750164699, 1519909683286607213750164699, 1519909683286607213750164699, 1519909683286607213750164699, 1519909683286607213750164699, 1519909683286607213750164699, 1519909683286607213750164699, 1519909683286607213750164699, 1519909683286607213750164699, 1519909683286607213750164699, 1519909683286607213750164699, 1519909683286607213750164699, 1519909683286607213750164699, 1519909683286607213750164699, 1519909683286607213750164699, 1519909683286607213750164699, 1519909683286607213750164699, 1519909683286607213750164699, 1519909683286607213750164699, 1519909683286607213750164699, 1519909683286607213750164699, 1519909683286607213750164699, 1519909683286607213750164699, 1519909683286607213750164699, 1519909683286607213750164699, 1519909683286607213750164699, 1519909683286607213750164699, 0]
def tr65 : List Nat := [0, 12782236936507908045871789830, 8371949462531171872217884144, 7376849777134163255037934540, 6771130277468897904898283874, 6388256664295491581428302254, 6107303107419522714007229441, 5901785078544637108764846881, 5733459316151205884993102768, 5598992276211737074588932896, 5483598354900827843562604538, 5385818477510957910720316312, 5298975801275795610824312323, 5223068346499812916404554676, 5153947450742270071392650344, 5092038482184322687339355990, 5034745663959861188535920280, 4982443932306077959798469555, 4933415094128277506355969915, 4888089276481339345881292692, 4845135052648697983479048868, 4805057779300590132620056070, 4766828200158626072893409535, 4730900528360457730499720762, 4695994159158619139809536266, 4662111491961351011538699200, 4628966990537311947780139570, 4596558963750095619110822268, 4564672147745383864094528400, 4533273490394781105754822116, 4502210838517994052245918991, 4471432802230774879997288246, 4440811489381483262822566710, 4410287473976736173653905686, 4410287473976736173653905686, 4410287473976736173653905686, 4410287473976736173653905686, 4410287473976736173653905686, 4410287473976736173653905686, 4410287473976736173653905686, 4410287473976736173653905686, 4410287473976736173653905686, 4410287473976736173653905686, 4410287473976736173653905686, 4410287473976736173653905686, 4410287473976736173653905686, 4410287473976736173653905686, 4410287473976736173653905686, 4410287473976736173653905686, 4410287473976736173653905686, 4410287473976736173653905686, 4410287473976736173653905686, 4410287473976736173653905686, 4410287473976736173653905686, 4410287473976736173653905686, 4410287473976736173653905686, 4410287473976736173653905686, 4410287473976736173653905686, 4410287473976736173653905686, 4410287473976736173653905686, 4410287473976736173653905686, 4410287473976736173653905686, 4410287473976736173653905686, 4410287473976736173653905686, 4410287473976736173653905686, 4410287473976736173653905686, 0]
def tr66 : List Nat := [0, 37115355365486957705177793997, 24333118428979049659306004167, 21442740638288920699402263180, 19689430685495348389464483938, 18577463670065438606772070694, 17765004510431266604464191689, 17168272929806837316356748749, 16681939962429208999574324357, 16291657251970433530994241143, 15958538143912914221181639410, 15674844317621734210225221112, 15424400742397781726562248671, 15204237613334551603273615715, 15005085004349026709940166375, 14825617690265264096337332869, 14660701583216164469917244540, 14509136080968965225789791040, 14368173311053877974163296229, 14236874602379139686759177837, 14113483713977297332482993513, 13997371933985034184872726176, 13887616579267038359823444907, 13783486106650329724569251728, 13683335738008583253725385944, 13586501528072216824033642820, 13491568436579288546831495357, 13399124151782501992178497387, 13307953383635567018573952789, 13218587657879807177147599653, 13129945800944218658312107278, 13042556584328996503029717303, 12955371980159639902993431863, 12868928480154416253135582679, 12782236936507908045871789830, 12782236936507908045871789830, 12782236936507908045871789830, 12782236936507908045871789830, 12782236936507908045871789830, 12782236936507908045871789830, 12782236936507908045871789830, 12782236936507908045871789830, 12782236936507908045871789830, 12782236936507908045871789830, 12782236936507908045871789830, 12782236936507908045871789830, 12782236936507908045871789830, 12782236936507908045871789830, 12782236936507908045871789830, 12782236936507908045871789830, 12782236936507908045871789830, 12782236936507908045871789830, 12782236936507908045871789830, 12782236936507908045871789830, 12782236936507908045871789830, 12782236936507908045871789830, 12782236936507908045871789830, 12782236936507908045871789830, 12782236936507908045871789830, 12782236936507908045871789830, 12782236936507908045871789830, 12782236936507908045871789830, 12782236936507908045871789830, 12782236936507908045871789830, 12782236936507908045871789830, 12782236936507908045871789830, 12782236936507908045871789830, 0]
def tr67 : List Nat := [0, 107646973580175411004613850143, 70531618214688453299436056146, 62159668752157281427218172002, 57066552056848738293391834716, 53848511763543611556906377040, 51488717457280960580952987501, 49763276143616710621622955501, 48351078436198442360027436478, 47223526352512527095205539350, 46256595429559840872280869007, 45437657180365304624630849531, 44710976063276613451146682208, 44076064861990236178110378124, 43498394191263387583326509224, 42981311874266091415090508840, 42503198110230672734025235462, 42066922794233778972661586362, 41658396848579233360637044027, 41280820857307263348001253368, 40923266479356461764679129469, 40589627406453434007456197013, 40271503156418103288406854327, 39972424898244537185730581252, 39685700019050689657271285956, 39407871587047840325363619010, 39136559684179825021224101428, 38871779060862119048536013131, 38611713352108704687271064601, 38356198914356216816181753505, 38103909659152282671647534005, 37854531645077815451785099816, 37606985174335880775818712616, 37360864364034190956031189256, 37115355365486957705177793997, 37115355365486957705177793997, 37115355365486957705177793997, 37115355365486957705177793997, 37115355365486957705177793997, 37115355365486957705177793997, 37115355365486957705177793997, 37115355365486957705177793997, 37115355365486957705177793997, 37115355365486957705177793997, 37115355365486957705177793997, 37115355365486957705177793997, 37115355365486957705177793997, 37115355365486957705177793997, 37115355365486957705177793997, 37115355365486957705177793997, 37115355365486957705177793997, 37115355365486957705177793997, 37115355365486957705177793997, 37115355365486957705177793997, 37115355365486957705177793997, 37115355365486957705177793997, 37115355365486957705177793997, 37115355365486957705177793997, 37115355365486957705177793997, 37115355365486957705177793997, 37115355365486957705177793997, 37115355365486957705177793997, 37115355365486957705177793997, 37115355365486957705177793997, 37115355365486957705177793997, 37115355365486957705177793997, 37115355365486957705177793997, 37115355365486957705177793997, 0]
def tr68 : List Nat := [0, 312761601476971658510821469884, 205114627896796247506207619741, 180781509467817197846901615574, 166027809913548871336825746494, 156676173589290137109908021930, 149846185823217302982846863027, 144833196514859669892279442927, 140749428962468040309153749487, 137474494104457637945811145956, 134680679843092315593204498582, 132303063462838237834402301420, 130205118453747053156548625030, 128362487280159985415075069736, 126696383500471311969455573984, 125196184960595549357379493498, 123818451767489938165743632066, 122553345583049295118051074141, 121377248633351986315489472940, 120282742179498021757075432542, 119254350133211213202610083239, 118287268614215572652730779671, 117372941258550389106744296270, 116505722700555896977644420081, 115681906206814655697244336169, 114886499013780843797395340345, 114108074109947126267085980542, 113351350257124348107293085484, 112606465263761473562871554131, 111877607267920786957169110571, 111156261957408693644138964821, 110446491250768365431150190065, 109740080898830117418490368497, 109041260980487897866113511697, 108342250949020522611347204712, 107646973580175411004613850143, 107646973580175411004613850143, 107646973580175411004613850143, 107646973580175411004613850143, 107646973580175411004613850143, 107646973580175411004613850143, 107646973580175411004613850143, 107646973580175411004613850143, 107646973580175411004613850143, 107646973580175411004613850143, 107646973580175411004613850143, 107646973580175411004613850143, 107646973580175411004613850143, 107646973580175411004613850143, 107646973580175411004613850143, 107646973580175411004613850143, 107646973580175411004613850143, 107646973580175411004613850143, 107646973580175411004613850143, 107646973580175411004613850143, 107646973580175411004613850143, 107646973580175411004613850143, 107646973580175411004613850143, 107646973580175411004613850143, 107646973580175411004613850143, 107646973580175411004613850143, 107646973580175411004613850143, 107646973580175411004613850143, 107646973580175411004613850143, 107646973580175411004613850143, 107646973580175411004613850143, 107646973580175411004613850143, 107646973580175411004613850143, 107646973580175411004613850143, 0]
def tr69 : List Nat := [0, 907736482463862356159127846667, 594974880986890697648306376783, 524443262772202244348870320637, 481557781495624402950065794277, 454473260385748811330472658781, 434623810147710310004850024596, 420116074282227802328072042956, 408250497388557433279653774451, 398780668795214454538251757384, 390665549430819898308239468743, 383795987181619287023429953935, 377704613960408759807242015746, 372384984425623654022195698026, 367549280096804916132144440986, 363222485089126400938177842146, 359224978553677547377978661731, 355579461307324677588731720581, 352168780295926575525038521878, 349017888823839971383004601705, 346035956408624310407092431347, 343253779067036766599229015053, 340602537842169271795641708297, 338109198234329438052711031379, 335719188699853684158880029739, 333433828717476060723784237261, 331205241947999413923879409829, 329034114599234303202843217072, 326905287213662803932196732030, 324817678716577007206588589674, 322760032573550778397447338424, 320730656529137010643447798758, 318720096871205287558395456486, 316725911201831656202304026694, 314741186169796973080448595519, 312761601476971658510821469884, 312761601476971658510821469884, 312761601476971658510821469884, 312761601476971658510821469884, 312761601476971658510821469884, 312761601476971658510821469884, 312761601476971658510821469884, 312761601476971658510821469884, 312761601476971658510821469884, 312761601476971658510821469884, 312761601476971658510821469884, 312761601476971658510821469884, 312761601476971658510821469884, 312761601476971658510821469884, 312761601476971658510821469884, 312761601476971658510821469884, 312761601476971658510821469884, 312761601476971658510821469884, 312761601476971658510821469884, 312761601476971658510821469884, 312761601476971658510821469884, 312761601476971658510821469884, 312761601476971658510821469884, 312761601476971658510821469884, 312761601476971658510821469884, 312761601476971658510821469884, 312761601476971658510821469884, 312761601476971658510821469884, 312761601476971658510821469884, 312761601476971658510821469884, 312761601476971658510821469884, 312761601476971658510821469884, 312761601476971658510821469884, 312761601476971658510821469884, 312761601476971658510821469884, 0]
def tr70 : List Nat := [0, 2638938679733698176490634951229, 1731202197269835820331507104562, 1526087569373039572825299484821, 1401768231868725009970863140817, 1323010509126743616413005205065, 1265516199148084192180150484779, 1223342148318378862845067732459, 1188999610984037631026910555421, 1161478378573658975316167765872, 1138010378772522715678909730167, 1118052505385779578023069128033, 1100451107403669379250075497231, 1085002553493095666754537242130, 1071040453739496534308077890982, 1058479834622053692469405828504, 1046948998930032275364140719396, 1036369265522761858086253617196, 1026539781930175966423597820632, 1017400254195905088642717278035, 1008814556704526927871885899527, 1000745320339381109852954661145, 993116471846368946714543930074, 985884218159603459633305428525, 979010694407236810625036547477, 972456945162238268673782387343, 966053780764400529836520809914, 959837965134046010347954852706, 953730115698121257426836938813, 947763881744495332961926148629, 941870333760264543249653211004, 936081514273002058265458933494, 930332923118846432871913965302, 924657143812573351613260182134, 918993438310417851036921414617, 913372730286191928359213727692, 907736482463862356159127846667, 907736482463862356159127846667, 907736482463862356159127846667, 907736482463862356159127846667, 907736482463862356159127846667, 907736482463862356159127846667, 907736482463862356159127846667, 907736482463862356159127846667, 907736482463862356159127846667, 907736482463862356159127846667, 907736482463862356159127846667, 907736482463862356159127846667, 907736482463862356159127846667, 907736482463862356159127846667, 907736482463862356159127846667, 907736482463862356159127846667, 907736482463862356159127846667, 907736482463862356159127846667, 907736482463862356159127846667, 907736482463862356159127846667, 907736482463862356159127846667, 907736482463862356159127846667, 907736482463862356159127846667, 907736482463862356159127846667, 907736482463862356159127846667, 907736482463862356159127846667, 907736482463862356159127846667, 907736482463862356159127846667, 907736482463862356159127846667, 907736482463862356159127846667, 907736482463862356159127846667, 907736482463862356159127846667, 907736482463862356159127846667, 907736482463862356159127846667, 907736482463862356159127846667, 0]
def tr71 : List Nat := [0, 7663830960784486652665127072621, 5024892281050788476174492121392, 4429917400063897778526185744609, 4068354381128263382832382513461, 3840088172900868429658815174597, 3672890999870279482197866538351, 3550744937721889027917721949531, 3450904375868840622220338242207, 3371254008617413729455434293682, 3303046871177385968041145863565, 3245332805409866224782957107371, 3194192721392742035005438367152, 3149554003796309870349068405147, 3109004345824960126169530206729, 3072738356865386405455010228363, 3039262165460349465544337209211, 3008744911030962338496219106761, 2980216514351604621938616724019, 2953876891208286977045314928084, 2928966838165812987771537326354, 2905728772577838834429209368054, 2883595520856837653866020807317, 2862779108984473181156833679590, 2842833002229271895355019346422, 2823977033058774729089986086604, 2805614615688417298333445629467, 2787755365201546599675551878816, 2770268935392043753576568788424, 2753151127280764502830560593988, 2736307793801366301675910254738, 2719727350397207646610325081487, 2703329425237361869154492884367, 2687101239923753533813843408719, 2670981405657741513417738324651, 2654941886606489062491729362604, 2638938679733698176490634951229, 2638938679733698176490634951229, 2638938679733698176490634951229, 2638938679733698176490634951229, 2638938679733698176490634951229, 2638938679733698176490634951229, 2638938679733698176490634951229, 2638938679733698176490634951229, 2638938679733698176490634951229, 2638938679733698176490634951229, 2638938679733698176490634951229, 2638938679733698176490634951229, 2638938679733698176490634951229, 2638938679733698176490634951229, 2638938679733698176490634951229, 2638938679733698176490634951229, 2638938679733698176490634951229, 2638938679733698176490634951229, 2638938679733698176490634951229, 2638938679733698176490634951229, 2638938679733698176490634951229, 2638938679733698176490634951229, 2638938679733698176490634951229, 2638938679733698176490634951229, 2638938679733698176490634951229, 2638938679733698176490634951229, 2638938679733698176490634951229, 2638938679733698176490634951229, 2638938679733698176490634951229, 2638938679733698176490634951229, 2638938679733698176490634951229, 2638938679733698176490634951229, 2638938679733698176490634951229, 2638938679733698176490634951229, 2638938679733698176490634951229, 2638938679733698176490634951229, 0]
def tr72 : List Nat := [0, 22292643705582302331880381573082, 14628812744797815679215254500461, 12897610547527979858883747395899, 11848724021983575370186006754625, 11184612782329379884838703768649, 10699976176457487380826546375289, 10344676086248862048737262541509, 10055488617400174830407785044340, 9823880894195246195502871667731, 9626461757875013097307844136754, 9458690466410330607340932844476, 9310790083458394288743643263819, 9181070475989996121525405265145, 9063889948299883218739809922589, 8958544689966282664203135080306, 8861878512046905523221419668241, 8773264093785061344685500459416, 8690963802379912441860885731409, 8614502488688626845112642252422, 8542704121210917088698226610632, 8475267767904198837130539153003, 8411516898948167231943037285215, 8351105964008213661293180865793, 8293681656559137751571483120353, 8238942782859154956051156812653, 8186111775310995644247789800854, 8134896627458096623798035101751, 8084654704489222744612104521452, 8035647381507446682328323853068, 7987321929858102718008914267943, 7939936222939321750850117133729, 7892968983650430795438622618017, 7846677890560554431818187072737, 7800588068603528817554142403439, 7754936968150948630132699281251, 7709269457863823591641363223246, 7663830960784486652665127072621, 7663830960784486652665127072621, 7663830960784486652665127072621, 7663830960784486652665127072621, 7663830960784486652665127072621, 7663830960784486652665127072621, 7663830960784486652665127072621, 7663830960784486652665127072621, 7663830960784486652665127072621, 7663830960784486652665127072621, 7663830960784486652665127072621, 7663830960784486652665127072621, 7663830960784486652665127072621, 7663830960784486652665127072621, 7663830960784486652665127072621, 7663830960784486652665127072621, 7663830960784486652665127072621, 7663830960784486652665127072621, 7663830960784486652665127072621, 7663830960784486652665127072621, 7663830960784486652665127072621, 7663830960784486652665127072621, 7663830960784486652665127072621, 7663830960784486652665127072621, 7663830960784486652665127072621, 7663830960784486652665127072621, 7663830960784486652665127072621, 7663830960784486652665127072621, 7663830960784486652665127072621, 7663830960784486652665127072621, 7663830960784486652665127072621, 7663830960784486652665127072621, 7663830960784486652665127072621, 7663830960784486652665127072621, 7663830960784486652665127072621, 7663830960784486652665127072621, 0]
def tr73 : List Nat := [0, 64779561870708382814904443287067, 42486918165126080483024061713985, 37462025884075292006849569592593, 34409850745329212861198970622951, 32483619619346715249398707445843, 31073534057043104015409535248473, 30043759707897484803790475498453, 29202514334336949775288994809752, 28531699594347258686744801785896, 27957608144787132364034133912354, 27472025403427704799718284871772, 27042060778335122677773974806461, 26666909968413431383899235175645, 26326362996139196175545822864553, 26021937898096614628482078888323, 25741123597619306876428584573646, 25485239609269672841246190800146, 25246244020821062599027749040244, 25025665198195811528240003534600, 24817229677260050452645695062657, 24622823108525000032953086275898, 24437768395592493897874396508265, 24263723955361483913613152665066, 24097013952436168277285082595642, 23939368843570406501740519400530, 23787647929064373526381123976328, 23640295442285344659889380337647, 23496216186822944432357749126400, 23355408590705008308362700454852, 23217055537450539145491141871852, 23081100520507221404857062200421, 22946871550781995031663810686053, 22814283749282540097667662507525, 22682811979797668096377963054495, 22552286376538953841467527256377, 22422309156344561908020057314357, 22292643705582302331880381573082, 22292643705582302331880381573082, 22292643705582302331880381573082, 22292643705582302331880381573082, 22292643705582302331880381573082, 22292643705582302331880381573082, 22292643705582302331880381573082, 22292643705582302331880381573082, 22292643705582302331880381573082, 22292643705582302331880381573082, 22292643705582302331880381573082, 22292643705582302331880381573082, 22292643705582302331880381573082, 22292643705582302331880381573082, 22292643705582302331880381573082, 22292643705582302331880381573082, 22292643705582302331880381573082, 22292643705582302331880381573082, 22292643705582302331880381573082, 22292643705582302331880381573082, 22292643705582302331880381573082, 22292643705582302331880381573082, 22292643705582302331880381573082, 22292643705582302331880381573082, 22292643705582302331880381573082, 22292643705582302331880381573082, 22292643705582302331880381573082, 22292643705582302331880381573082, 22292643705582302331880381573082, 22292643705582302331880381573082, 22292643705582302331880381573082, 22292643705582302331880381573082, 22292643705582302331880381573082, 22292643705582302331880381573082, 22292643705582302331880381573082, 22292643705582302331880381573082, 22292643705582302331880381573082, 0]
def tr74 : List Nat := [0, 188530436658141707354756422818124, 123750874787433324539851979531057, 109122062042635508860636725030596, 100262227242507713303584353541378, 94655154315032813263700900978110, 90564894971561073961726647049081, 87567971255096727902069709788541, 85129570724059509081610184968992, 83177783748455291628659989019223, 81514883042420405717507075949111, 80102566254939785015156564987403, 78858004634040798816413717007480, 77767210793355887353368679274510, 76782251854491709855586268560662, 75897388845111489041060490728788, 75085813325979930732220751794139, 74342340884160751592330294812539, 73652136127377862529157877316579, 73011469985751168264628484385122, 72410096961914801280880413185672, 71845613230099901547032898184986, 71312056637480719311901048313708, 70806721702560433656281068672183, 70326330922374318618005371072791, 69868518371987273145608585876787, 69431441313454813102137619894085, 69008272135231724008705340763247, 68593737813342542766298411317478, 68189942488376753231631286444634, 67792427185376364982574866871759, 67403195609521523561401829209095, 67018077331460247200292400009223, 66639150993381564984689881916231, 66262587129542832237221425209428, 65890261281994451320883743363698, 65518630479942123864041190795728, 65149581352031097989335531780628, 64779561870708382814904443287067, 64779561870708382814904443287067, 64779561870708382814904443287067, 64779561870708382814904443287067, 64779561870708382814904443287067, 64779561870708382814904443287067, 64779561870708382814904443287067, 64779561870708382814904443287067, 64779561870708382814904443287067, 64779561870708382814904443287067, 64779561870708382814904443287067, 64779561870708382814904443287067, 64779561870708382814904443287067, 64779561870708382814904443287067, 64779561870708382814904443287067, 64779561870708382814904443287067, 64779561870708382814904443287067, 64779561870708382814904443287067, 64779561870708382814904443287067, 64779561870708382814904443287067, 64779561870708382814904443287067, 64779561870708382814904443287067, 64779561870708382814904443287067, 64779561870708382814904443287067, 64779561870708382814904443287067, 64779561870708382814904443287067, 64779561870708382814904443287067, 64779561870708382814904443287067, 64779561870708382814904443287067, 64779561870708382814904443287067, 64779561870708382814904443287067, 64779561870708382814904443287067, 64779561870708382814904443287067, 64779561870708382814904443287067, 64779561870708382814904443287067, 64779561870708382814904443287067, 64779561870708382814904443287067, 0]
def tr75 : List Nat := [0, 548161111912170087209683227571935, 359630675254028379854926804753811, 317143757088902299371902743039826, 291348535993846339654135248248028, 275075118469333286122805718194184, 263168023887192593575088671348599, 254475547684238387374991670856679, 247378721055010263550269978153256, 241721644877975045794146768085330, 236883022674139827035441478465859, 232792258301383809464143775480511, 229172247358667256833881884094539, 226014918951434181157548377721521, 223150867165751227101609404814561, 220591610919600067484808064884119, 218232480121460350190731639332581, 216083783268534253047154451851481, 214078259271297743710611391744005, 212228054126571060407849853454254, 210481279886376586374240361988455, 208852392402771075936644633040880, 207302772695212852494521355454129, 205845474489552267145927573300523, 204450238547108606763516193869515, 203130639857276016089921356929971, 201860806586478819507960653897215, 200641742357387374483709382404877, 199451276202566594464277852414615, 198289505754215010316677731858627, 197149547219453336141397664271252, 196031208995802620614600134265419, 194928637000811145805897683544651, 193841453964752265399315407967083, 192765261702994632307427463860741, 191698839152288930295170879379668, 190638757835714133467785987386718, 189583572756381254482862928254368, 188530436658141707354756422818124, 188530436658141707354756422818124, 188530436658141707354756422818124, 188530436658141707354756422818124, 188530436658141707354756422818124, 188530436658141707354756422818124, 188530436658141707354756422818124, 188530436658141707354756422818124, 188530436658141707354756422818124, 188530436658141707354756422818124, 188530436658141707354756422818124, 188530436658141707354756422818124, 188530436658141707354756422818124, 188530436658141707354756422818124, 188530436658141707354756422818124, 188530436658141707354756422818124, 188530436658141707354756422818124, 188530436658141707354756422818124, 188530436658141707354756422818124, 188530436658141707354756422818124, 188530436658141707354756422818124, 188530436658141707354756422818124, 188530436658141707354756422818124, 188530436658141707354756422818124, 188530436658141707354756422818124, 188530436658141707354756422818124, 188530436658141707354756422818124, 188530436658141707354756422818124, 188530436658141707354756422818124, 188530436658141707354756422818124, 188530436658141707354756422818124, 188530436658141707354756422818124, 188530436658141707354756422818124, 188530436658141707354756422818124, 188530436658141707354756422818124, 188530436658141707354756422818124, 188530436658141707354756422818124, 188530436658141707354756422818124, 0]
def tr76 : List Nat := [0, 1596127506663196274559313350061169, 1047966394751026187349630122489234, 924215519963592862809778142958177, 849291468195442278796079003772991, 801896572107507977315334976754491, 767335778551400161448405640183118, 742025454568438477604802630487538, 721439766928609315290727100382694, 704972083740000554574556111692715, 690946696413304334027280066505765, 679041626957945300018278563505905, 668555438382231464966106107646441, 659370383258995216491655301469224, 651079604525628759907890097877508, 643636653702090151301011898093232, 636812781714970558349641235674364, 630565826370983914705646905556189, 624769094070883635656228117902468, 619392054765195797723995992996007, 614346919908531908219920148705552, 609614783476017791097521390386182, 605142599993546856206008322875552, 600909241937438205099102539461458, 596884937838848609302249815010114, 593051264412817135512499150544362, 589390206854204857542383286948504, 585884550290776271065204418271903, 582455059723008669871274880968141, 579118669162800102514332513026517, 575838863637204954024634754954892, 572631794140311653284319749453943, 569463889779989046649058452937847, 566351345823304646184079188923255, 563263627042780637520061075902912, 560215868595823504002774264557790, 557179564162432656954782156560995, 554169636078022210507519637858745, 551158509880110892065729059164911, 548161111912170087209683227571935, 548161111912170087209683227571935, 548161111912170087209683227571935, 548161111912170087209683227571935, 548161111912170087209683227571935, 548161111912170087209683227571935, 548161111912170087209683227571935, 548161111912170087209683227571935, 548161111912170087209683227571935, 548161111912170087209683227571935, 548161111912170087209683227571935, 548161111912170087209683227571935, 548161111912170087209683227571935, 548161111912170087209683227571935, 548161111912170087209683227571935, 548161111912170087209683227571935, 548161111912170087209683227571935, 548161111912170087209683227571935, 548161111912170087209683227571935, 548161111912170087209683227571935, 548161111912170087209683227571935, 548161111912170087209683227571935, 548161111912170087209683227571935, 548161111912170087209683227571935, 548161111912170087209683227571935, 548161111912170087209683227571935, 548161111912170087209683227571935, 548161111912170087209683227571935, 548161111912170087209683227571935, 548161111912170087209683227571935, 548161111912170087209683227571935, 548161111912170087209683227571935, 548161111912170087209683227571935, 548161111912170087209683227571935, 548161111912170087209683227571935, 548161111912170087209683227571935, 548161111912170087209683227571935, 548161111912170087209683227571935, 0]
def tr77 : List Nat := [0, 4643276509698935553706619543476971, 3047149003035739279147306193415802, 2687518327781710899292379388661991, 2469274203696439881571105938600799, 2331634800715123030126310056108995, 2230973285674158611162761722191154, 2157515465676753021518804391424134, 2097571700409152457239396072533643, 2049806392214691237545676580922876, 2008976467465667319075770670573944, 1974469047275215677785049142294722, 1943950125388806161277740636789658, 1917343967890600391515791764615875, 1893223718491165940807317190458851, 1871678207883869141900448368356289, 1851831554389206143012770593719150, 1833761993740185962260066493852775, 1816907966149729401497040569829982, 1801366239458543710587316093484350, 1786703306241844144299631854887698, 1773035768357207222700794093594232, 1760040724463105894605327969022377, 1747821164718773990475397670734714, 1736127705022864716478571487578538, 1725067554321783595020869104882686, 1714427802727002426437366536287618, 1704317251056154968162423205535313, 1694455083148011816107312637103464, 1684843621360300001086853184859840, 1675424624509035643402499164678090, 1666197478138244737451140314611767, 1657112847721249318613595152897079, 1648169901939144150022297191551255, 1639329936531754893176096071162063, 1630585568699374425601927206988850, 1621908030440007544209154401292220, 1613286938978446795198563831059495, 1604697665412782456512592354464505, 1596127506663196274559313350061169, 1596127506663196274559313350061169, 1596127506663196274559313350061169, 1596127506663196274559313350061169, 1596127506663196274559313350061169, 1596127506663196274559313350061169, 1596127506663196274559313350061169, 1596127506663196274559313350061169, 1596127506663196274559313350061169, 1596127506663196274559313350061169, 1596127506663196274559313350061169, 1596127506663196274559313350061169, 1596127506663196274559313350061169, 1596127506663196274559313350061169, 1596127506663196274559313350061169, 1596127506663196274559313350061169, 1596127506663196274559313350061169, 1596127506663196274559313350061169, 1596127506663196274559313350061169, 1596127506663196274559313350061169, 1596127506663196274559313350061169, 1596127506663196274559313350061169, 1596127506663196274559313350061169, 1596127506663196274559313350061169, 1596127506663196274559313350061169, 1596127506663196274559313350061169, 1596127506663196274559313350061169, 1596127506663196274559313350061169, 1596127506663196274559313350061169, 1596127506663196274559313350061169, 1596127506663196274559313350061169, 1596127506663196274559313350061169, 1596127506663196274559313350061169, 1596127506663196274559313350061169, 1596127506663196274559313350061169, 1596127506663196274559313350061169, 1596127506663196274559313350061169, 1596127506663196274559313350061169, 1596127506663196274559313350061169, 0]
def tr78 : List Nat := [0, 13526846618990192647088381121735621, 8883570109291257093381761578258650, 7835603714540230906032131455769416, 7201316200362426307288325969689764, 6800267291392395454073988555524252, 6507914714818275016829400188511665, 6293915191289125269212869261005885, 6119928689340752706844900885478866, 5980815734855620304014752350494609, 5862377876223441611016891578551561, 5761906089060494743584361022609389, 5673438970530323495480204758572532, 5595993054402744233431135707995441, 5526118846063269736235475575539913, 5463427670632564455133388949842069, 5405971449766498490819413679098461, 5353409758164350598487303340345286, 5304654157497239293444036294902366, 5259459416607936456201009932395299, 5217073549548335528089649669130484, 5177344546430620643234147239537371, 5139807655166031643579286775747626, 5104294105559231085725007471756676, 5070536037156661692821705572448948, 5038390875361929812030157356565512, 5007688901725390274130384955886376, 4978296300064876866978782093522737, 4949853137873217371630507149147792, 4922213507986490974212801840995644, 4895079296124662073370952310876394, 4868580632733068375422490018368440, 4842442996905919095567375427393464, 4816797223540027455096347511194392, 4791398278993657070151863104351743, 4766363645128907137252552017367271, 4741466794627117422196413739362376, 4716828339348227843892426967021726, 4692226783788981911219487158982727, 4667780303248767937985712742022767, 4643276509698935553706619543476971, 4643276509698935553706619543476971, 4643276509698935553706619543476971, 4643276509698935553706619543476971, 4643276509698935553706619543476971, 4643276509698935553706619543476971, 4643276509698935553706619543476971, 4643276509698935553706619543476971, 4643276509698935553706619543476971, 4643276509698935553706619543476971, 4643276509698935553706619543476971, 4643276509698935553706619543476971, 4643276509698935553706619543476971, 4643276509698935553706619543476971, 4643276509698935553706619543476971, 4643276509698935553706619543476971, 4643276509698935553706619543476971, 4643276509698935553706619543476971, 4643276509698935553706619543476971, 4643276509698935553706619543476971, 4643276509698935553706619543476971, 4643276509698935553706619543476971, 4643276509698935553706619543476971, 4643276509698935553706619543476971, 4643276509698935553706619543476971, 4643276509698935553706619543476971, 4643276509698935553706619543476971, 4643276509698935553706619543476971, 4643276509698935553706619543476971, 4643276509698935553706619543476971, 4643276509698935553706619543476971, 4643276509698935553706619543476971, 4643276509698935553706619543476971, 4643276509698935553706619543476971, 4643276509698935553706619543476971, 4643276509698935553706619543476971, 4643276509698935553706619543476971, 4643276509698935553706619543476971, 4643276509698935553706619543476971, 0]
def tr79 : List Nat := [0, 39370781934225137744311370681429458, 25843935315234945097222989559693837, 22796786312199205818075683366278035, 20948355272272020092456127080361681, 19782961128296634733839586087369569, 18931064739461339414466277978566579, 18309594058320477334158087273597119, 17802704930094283093769961409063178, 17398949118117628740970181834724959, 17053990039681252025301280008260975, 16762553539805860381163333364578697, 16504959475243714332099752083713957, 16280465664430002455961544592347589, 16077063373638812824612950161312319, 15895453727317007454107287341140791, 15728263787674967929429826937117997, 15576097286339862110376990097118997, 15434266186805618003229493355383754, 15303525670744769899687368346439474, 15180262301072642378482772106184853, 15065418655217927144015808612429042, 14956285308781727715469674867120521, 14853686760928847679616954574497951, 14755553484995898307580764097537367, 14662734228890222996265007335498987, 14573475508378662871228129051737567, 14488636983624886817801099633763939, 14406738681507502944393547001715935, 14327024111333082143750600892938795, 14248994401628798085887424579447170, 14172657148535197637511881825234716, 14097594676801987109592243960477468, 14023808528772315629623798588212924, 13950971726286890004731985646287127, 13879042341049933652048095206160068, 13807764056713620970216771666208188, 13737073508387729641572231004909963, 13666764043612852659342313331747677, 13596743983750947265483576259533681, 13526846618990192647088381121735621, 13526846618990192647088381121735621, 13526846618990192647088381121735621, 13526846618990192647088381121735621, 13526846618990192647088381121735621, 13526846618990192647088381121735621, 13526846618990192647088381121735621, 13526846618990192647088381121735621, 13526846618990192647088381121735621, 13526846618990192647088381121735621, 13526846618990192647088381121735621, 13526846618990192647088381121735621, 13526846618990192647088381121735621, 13526846618990192647088381121735621, 13526846618990192647088381121735621, 13526846618990192647088381121735621, 13526846618990192647088381121735621, 13526846618990192647088381121735621, 13526846618990192647088381121735621, 13526846618990192647088381121735621, 13526846618990192647088381121735621, 13526846618990192647088381121735621, 13526846618990192647088381121735621, 13526846618990192647088381121735621, 13526846618990192647088381121735621, 13526846618990192647088381121735621, 13526846618990192647088381121735621, 13526846618990192647088381121735621, 13526846618990192647088381121735621, 13526846618990192647088381121735621, 13526846618990192647088381121735621, 13526846618990192647088381121735621, 13526846618990192647088381121735621, 13526846618990192647088381121735621, 13526846618990192647088381121735621, 13526846618990192647088381121735621, 13526846618990192647088381121735621, 13526846618990192647088381121735621, 13526846618990192647088381121735621, 13526846618990192647088381121735621, 0]
def tr80 : List Nat := [0, 114746308656293333273827579945353483, 75375526722068195529516209263924025, 66491956612776938436134447685665375, 61116919957213516637549688908341393, 57719754084431747522365372893249429, 55244078018207747947260121429501773, 53432780118776526468025588488520153, 51960635893089549712639855189095956, 50784143724853729257482144338908176, 49782881284294357379833880353684622, 48933925541730055433937413694980040, 48186674754687442682102795574668595, 47532914854931178728203764928392965, 46943265259207473348613004289850093, 46414531078909226694434842647294218, 45930161102368407367447061087457448, 45487315234343537735287579946762773, 45076676395711319970057969144097533, 44696294029889679765208225401723126, 44339680979849001501666869205077311, 44005651536108767841709496204412759, 43690152118528975528723779974513666, 43391812220633392300962642939693886, 43108269384503935021242804765508966, 42838392289398856183630765440000472, 42580613261336128589323528787170918, 42333898580249098876322889361744063, 42097450337082402752143735927237334, 41867922835628415768452967377925126, 41642879852223671756427516295854501, 41423357216782930490278216101784818, 41207117521299002882886501453923570, 40995217306321381803750334683015858, 40785656572335276647525057184712239, 40579383968533282447411245773226712, 40374587557259417807708656818322727, 40172204488641942415033666313393327, 39970478586543911364422776474897508, 39770366324514806036547794366836364, 39570165004873453799405257130933558, 39370781934225137744311370681429458, 39370781934225137744311370681429458, 39370781934225137744311370681429458, 39370781934225137744311370681429458, 39370781934225137744311370681429458, 39370781934225137744311370681429458, 39370781934225137744311370681429458, 39370781934225137744311370681429458, 39370781934225137744311370681429458, 39370781934225137744311370681429458, 39370781934225137744311370681429458, 39370781934225137744311370681429458, 39370781934225137744311370681429458, 39370781934225137744311370681429458, 39370781934225137744311370681429458, 39370781934225137744311370681429458, 39370781934225137744311370681429458, 39370781934225137744311370681429458, 39370781934225137744311370681429458, 39370781934225137744311370681429458, 39370781934225137744311370681429458, 39370781934225137744311370681429458, 39370781934225137744311370681429458, 39370781934225137744311370681429458, 39370781934225137744311370681429458, 39370781934225137744311370681429458, 39370781934225137744311370681429458, 39370781934225137744311370681429458, 39370781934225137744311370681429458, 39370781934225137744311370681429458, 39370781934225137744311370681429458, 39370781934225137744311370681429458, 39370781934225137744311370681429458, 39370781934225137744311370681429458, 39370781934225137744311370681429458, 39370781934225137744311370681429458, 39370781934225137744311370681429458, 39370781934225137744311370681429458, 39370781934225137744311370681429458, 39370781934225137744311370681429458, 0]
def tr81 : List Nat := [0, 334141651031752909413743386368478487, 219395342375459576139915806423125004, 193551407060224631042692816863431167, 177880199631144169230628553951892335, 168003102816358409704344130197489139, 160786033667390837908506115406698720, 155522673189646986037004341979726740, 151231842598147246369802926200088231, 147815148421029823246094113807347247, 144897455795453835126029760922031140, 142433382829555505193871066107811650, 140256534601569392355460150515531399, 138360079734874179972467988354470733, 136642846380040199687585114071542525, 135110093463922651699311437866016437, 133699836232371548982675541751518550, 132416857168552977355306875866167550, 131221723459723322276474704728125592, 130120411025388617051797286435514621, 129082808470579287806408454424885333, 128116427439522507625640435981822754, 127198736402779586317151064799784845, 126336133695579097626114380625262296, 125511468966852186427447550574396256, 124731560406376702768912156170306358, 123981860563073442614348805022678425, 123269181766333483347398976916878250, 122581344222812776373872191735446991, 121918676339912713444046557315881083, 121270695003657364812168305184622583, 120637576810706506102369844518882268, 120015737460771675414504460416554972, 119405296092379239465588235556671260, 118803476296004087011472541273626698, 118210003809857808689270746786171369, 117622707131822810053089803461729164, 117041221107834211586066606084062989, 116463691182645119166798077084791653, 115889546197927171314361942026310377, 115317385319835160523853128157208893, 114746308656293333273827579945353483, 114746308656293333273827579945353483, 114746308656293333273827579945353483, 114746308656293333273827579945353483, 114746308656293333273827579945353483, 114746308656293333273827579945353483, 114746308656293333273827579945353483, 114746308656293333273827579945353483, 114746308656293333273827579945353483, 114746308656293333273827579945353483, 114746308656293333273827579945353483, 114746308656293333273827579945353483, 114746308656293333273827579945353483, 114746308656293333273827579945353483, 114746308656293333273827579945353483, 114746308656293333273827579945353483, 114746308656293333273827579945353483, 114746308656293333273827579945353483, 114746308656293333273827579945353483, 114746308656293333273827579945353483, 114746308656293333273827579945353483, 114746308656293333273827579945353483, 114746308656293333273827579945353483, 114746308656293333273827579945353483, 114746308656293333273827579945353483, 114746308656293333273827579945353483, 114746308656293333273827579945353483, 114746308656293333273827579945353483, 114746308656293333273827579945353483, 114746308656293333273827579945353483, 114746308656293333273827579945353483, 114746308656293333273827579945353483, 114746308656293333273827579945353483, 114746308656293333273827579945353483, 114746308656293333273827579945353483, 114746308656293333273827579945353483, 114746308656293333273827579945353483, 114746308656293333273827579945353483, 114746308656293333273827579945353483, 114746308656293333273827579945353483, 114746308656293333273827579945353483, 0]
def tr82 : List Nat := [0, 974279488961996594532301582274914142, 640137837930243685118558195906435655, 564762311208175489589041986642511630, 519168738583777077952890619909955560, 490363473782327372723737316031196504, 469378760575891265452600525526215549, 454032045004863262223632412722553189, 441562743168335581242257820850575918, 431602583393620618679709429209203854, 423128668614099482849746223078792742, 415947328142724723079154571352774258, 409628665170591713539502153864722921, 404103300160317889586287524793126070, 399121533838671896342778590744934242, 394657133373265788722910884684460034, 390568622043849975309233230212072714, 386832708762906916198186568372167214, 383369975001725311995140109411546429, 380164253426012459318168111977216215, 377159841960608511743293072669487296, 374347665775269752800821264607027998, 371692451786175982395762678205750119, 369183040352268598443063878754358664, 366798389612468280917331517890926280, 364529670928632935742710747396408550, 362362818294275417448946014437307445, 360289655134000727789511617395152130, 358302307189779403167700837018177430, 356392089020483516199607119274153526, 354521304833251093890688919991541901, 352698325211895697140897104022188833, 350904898284663161733996223820619553, 349149455266465353363959935335860929, 347415734986551036065555027509727867, 345711391410475900284714324759124725, 344021664257211006295737539532003690, 342354131080784369430493343420291415, 340694774978385395462743156320180498, 339051030141340567177722866332583154, 337409435092254739556739538716397268, 335777339330571973538767062976604528, 334141651031752909413743386368478487, 334141651031752909413743386368478487, 334141651031752909413743386368478487, 334141651031752909413743386368478487, 334141651031752909413743386368478487, 334141651031752909413743386368478487, 334141651031752909413743386368478487, 334141651031752909413743386368478487, 334141651031752909413743386368478487, 334141651031752909413743386368478487, 334141651031752909413743386368478487, 334141651031752909413743386368478487, 334141651031752909413743386368478487, 334141651031752909413743386368478487, 334141651031752909413743386368478487, 334141651031752909413743386368478487, 334141651031752909413743386368478487, 334141651031752909413743386368478487, 334141651031752909413743386368478487, 334141651031752909413743386368478487, 334141651031752909413743386368478487, 334141651031752909413743386368478487, 334141651031752909413743386368478487, 334141651031752909413743386368478487, 334141651031752909413743386368478487, 334141651031752909413743386368478487, 334141651031752909413743386368478487, 334141651031752909413743386368478487, 334141651031752909413743386368478487, 334141651031752909413743386368478487, 334141651031752909413743386368478487, 334141651031752909413743386368478487, 334141651031752909413743386368478487, 334141651031752909413743386368478487, 334141651031752909413743386368478487, 334141651031752909413743386368478487, 334141651031752909413743386368478487, 334141651031752909413743386368478487, 334141651031752909413743386368478487, 334141651031752909413743386368478487, 334141651031752909413743386368478487, 0]
def tr83 : List Nat := [0, 2838393872808186079243433974670153754, 1864114383846189484711132392395239612, 1644719041470729908571216585972114608, 1511735128245176031698947690600783858, 1427941707156087951329123182279337134, 1366739301533556392242457285279618866, 1322119835820073220019202050835795786, 1285760588546219734616566721941906424, 1256817278182783533781185134497975472, 1232113476409492312167473117759266241, 1211257100733481111423903653860650157, 1192841030395380197731410857612455385, 1176802988741267239973648551570985193, 1162287824580636606143806352345770053, 1149336490597865491314057978678746371, 1137427453895858760872535969118736117, 1126596576437419229693087988492131967, 1116512915479914851457712018986615487, 1107224740348293884498553089935855582, 1098478996421443397576552907927966692, 1090336216553263411381962345573633999, 1082609162797317775154392628901323581, 1075347661937643879297234942391154072, 1068409183178587512708722541005315664, 1061847824239003018287234431486845968, 1055543138722278117857429613367892647, 1049549887364129818767086249985565480, 1043767065746392393814369914056057926, 1038246413211893348836036171643982854, 1032853657598563363779770951923659854, 1027590540810374428646539790853677211, 1022426606529009207367910288703344795, 1017363789615945980514503815948828475, 1012378139366032069149963319276026776, 1007468272592654603887024141725370134, 1002615687702515450090717298795485204, 997817982909418980006526647162971279, 993059431133270806322419851325234478, 988336631660595693800956996891976810, 983636837256262844464195186457569626, 978954167705441973112853537585910416, 974279488961996594532301582274914142, 974279488961996594532301582274914142, 974279488961996594532301582274914142, 974279488961996594532301582274914142, 974279488961996594532301582274914142, 974279488961996594532301582274914142, 974279488961996594532301582274914142, 974279488961996594532301582274914142, 974279488961996594532301582274914142, 974279488961996594532301582274914142, 974279488961996594532301582274914142, 974279488961996594532301582274914142, 974279488961996594532301582274914142, 974279488961996594532301582274914142, 974279488961996594532301582274914142, 974279488961996594532301582274914142, 974279488961996594532301582274914142, 974279488961996594532301582274914142, 974279488961996594532301582274914142, 974279488961996594532301582274914142, 974279488961996594532301582274914142, 974279488961996594532301582274914142, 974279488961996594532301582274914142, 974279488961996594532301582274914142, 974279488961996594532301582274914142, 974279488961996594532301582274914142, 974279488961996594532301582274914142, 974279488961996594532301582274914142, 974279488961996594532301582274914142, 974279488961996594532301582274914142, 974279488961996594532301582274914142, 974279488961996594532301582274914142, 974279488961996594532301582274914142, 974279488961996594532301582274914142, 974279488961996594532301582274914142, 974279488961996594532301582274914142, 974279488961996594532301582274914142, 974279488961996594532301582274914142, 974279488961996594532301582274914142, 974279488961996594532301582274914142, 974279488961996594532301582274914142, 974279488961996594532301582274914142, 0]
def tr84 : List Nat := [0, 8279546180699144670067143700059414094, 5441152307890958590823709725389260340, 4801014469960714905705151529482824685, 4413911655840265643619765895755962351, 4169443976011411577069567140122596779, 3991397325856741864465010865336270658, 3861239031560376364128422861566037358, 3755520773742215466074001446386254792, 3671112321011568176184986375641479594, 3599320992482809587584124785520136584, 3538510889733163964918864506862099778, 3485022856272690223673813006216759694, 3438273379263645625950031173389124495, 3396138645800858592504501336265067929, 3358398393332439953125087595620535195, 3323847580883306982488645304742081237, 3292295543911656358995559683700862787, 3263059579439660207648686525779895493, 3236008518969725894209583468826483590, 3210666752917539526836850607925713018, 3186960319877370262386694846918419435, 3164584382998286925349934820049775726, 3143449613164281316682299027534718907, 3123369735557208988231587154126068787, 3104275513436798025399684992641769701, 3086039410210457086961067776389172283, 3068597914199663842220902486160390787, 3051877635216146589100928127263241076, 3035809283892450410124896137126905768, 3020223875679294306171739537565991768, 3005052322061928309902453276185715184, 2990143549143693295335709809006800368, 2975565841281357285530839179628644464, 2961186887281588221665762644969815269, 2947067609339622204413907779858714660, 2933088300442319550155713412337377230, 2919310176713086689965564534520020080, 2905619218723545169471067185045342153, 2892075600336509965383451166130852949, 2878572174479751341242128151711364051, 2865165954617829033336473262923531811, 2851753766236657286777857200598635390, 2838393872808186079243433974670153754, 2838393872808186079243433974670153754, 2838393872808186079243433974670153754, 2838393872808186079243433974670153754, 2838393872808186079243433974670153754, 2838393872808186079243433974670153754, 2838393872808186079243433974670153754, 2838393872808186079243433974670153754, 2838393872808186079243433974670153754, 2838393872808186079243433974670153754, 2838393872808186079243433974670153754, 2838393872808186079243433974670153754, 2838393872808186079243433974670153754, 2838393872808186079243433974670153754, 2838393872808186079243433974670153754, 2838393872808186079243433974670153754, 2838393872808186079243433974670153754, 2838393872808186079243433974670153754, 2838393872808186079243433974670153754, 2838393872808186079243433974670153754, 2838393872808186079243433974670153754, 2838393872808186079243433974670153754, 2838393872808186079243433974670153754, 2838393872808186079243433974670153754, 2838393872808186079243433974670153754, 2838393872808186079243433974670153754, 2838393872808186079243433974670153754, 2838393872808186079243433974670153754, 2838393872808186079243433974670153754, 2838393872808186079243433974670153754, 2838393872808186079243433974670153754, 2838393872808186079243433974670153754, 2838393872808186079243433974670153754, 2838393872808186079243433974670153754, 2838393872808186079243433974670153754, 2838393872808186079243433974670153754, 2838393872808186079243433974670153754, 2838393872808186079243433974670153754, 2838393872808186079243433974670153754, 2838393872808186079243433974670153754, 2838393872808186079243433974670153754, 2838393872808186079243433974670153754, 0]
def tr85 : List Nat := [0, 24131607951799556291990511473978811398, 15852061771100411621923367773919397304, 13987947387254222137212235381524157692, 12858422764837871158034151408239134432, 12146901966313294481111637192431565092, 11627424179553408753410348836392320231, 11248802884764181965121023276820988651, 10940401040391014826929592683031700286, 10694985151443143989432583342545264055, 10485608442572363824723940177372527700, 10308893707657455513755500834436996886, 10152934011159087752330991002406523245, 10017155823991067101365887874903282564, 9894331463163272933252121003266172754, 9784779477029438813286285267371662981, 9684093699720685199897517976746876989, 9592554194560744318886924564271274914, 9507381212574017638420715602407243747, 9428950657218419575718010715158302658, 9355141132661716585338233614412760391, 9286448808926040089240734836409438875, 9221301736456333935373121207826711015, 9160099901105419281032950570553279433, 9101647547474702681035519376170366801, 9046381728326764751252398604866764835, 8993302365082505180531356742439399312, 8942844735675581562660574039137587743, 8894173347374520346738478727020019207, 8847702980071688948579330557638195823, 8802728521462506762322622484135012448, 8758881762345524425243889625631473136, 8715905469627541724043115670518521328, 8673818230645391402278133652333799824, 8632415945243019088249288634852421220, 8591694988525088665482418481230434475, 8551494763780122766622843978909482240, 8511802795067200680858324574296737590, 8472484887591304167399719474733884044, 8433518176901571151605503750708938336, 8394794270078999263346356619308935942, 8356275585994015233049841727733276912, 8317877244125969435164367824454001688, 8279546180699144670067143700059414094, 8279546180699144670067143700059414094, 8279546180699144670067143700059414094, 8279546180699144670067143700059414094, 8279546180699144670067143700059414094, 8279546180699144670067143700059414094, 8279546180699144670067143700059414094, 8279546180699144670067143700059414094, 8279546180699144670067143700059414094, 8279546180699144670067143700059414094, 8279546180699144670067143700059414094, 8279546180699144670067143700059414094, 8279546180699144670067143700059414094, 8279546180699144670067143700059414094, 8279546180699144670067143700059414094, 8279546180699144670067143700059414094, 8279546180699144670067143700059414094, 8279546180699144670067143700059414094, 8279546180699144670067143700059414094, 8279546180699144670067143700059414094, 8279546180699144670067143700059414094, 8279546180699144670067143700059414094, 8279546180699144670067143700059414094, 8279546180699144670067143700059414094, 8279546180699144670067143700059414094, 8279546180699144670067143700059414094, 8279546180699144670067143700059414094, 8279546180699144670067143700059414094, 8279546180699144670067143700059414094, 8279546180699144670067143700059414094, 8279546180699144670067143700059414094, 8279546180699144670067143700059414094, 8279546180699144670067143700059414094, 8279546180699144670067143700059414094, 8279546180699144670067143700059414094, 8279546180699144670067143700059414094, 8279546180699144670067143700059414094, 8279546180699144670067143700059414094, 8279546180699144670067143700059414094, 8279546180699144670067143700059414094, 8279546180699144670067143700059414094, 8279546180699144670067143700059414094, 8279546180699144670067143700059414094, 0]
def tr86 : List Nat := [0, 70418933314954192654819248163250054822, 46287325363154636362828736689271243424, 40846173055263677772005026963881983084, 37556734972322217954862593791937753868, 35480060017987109643051031312297931628, 33968032092639883955711934140520529377, 32863150532275728996766731711930493917, 31965980423418025607392985435524235086, 31249948766765157540692132031923207764, 30641156268277394243141066087389113592, 30125710032753069209956715157775812902, 29672463505840274932930027226915257985, 29276517464572756082072813953820700905, 28919767543015321197019009985640922095, 28600383252907078212040275303398653502, 28308095162186972060994178365446079853, 28041306383534626586424511206625994153, 27794183280459032930721151314334566706, 27565665484816280712621075075204118126, 27351649568691044652285067509254339238, 27151554425463048403328921942703346107, 26962767631046533905600418290298855297, 26784557911839877028908303888292798577, 26615277640308169312542183919460292393, 26454376622483379806139152200052014839, 26300728024115679631727550049228557848, 26153836555713276336405417658952722706, 26013011061767050485584566987146256418, 25877709067183817305999655870903995202, 25747614222645787716777346446270505952, 25621086625416162793463000014408392235, 25496882394124426170681874632991170091, 25375560974037848375669927455215165739, 25256028610199024094212453635291457160, 25138778031894059563899758950178988196, 25022837852897704206130821196418141521, 24908695868157850357668520627530671596, 24795428983343938084462245001368147550, 24683523773590953036171163122314401366, 24572110174151693005143752455501282528, 24461649765862899837917582718632215938, 24351323841401267799746824386155588535, 24241584160165119122885424684503086599, 24131607951799556291990511473978811398, 24131607951799556291990511473978811398, 24131607951799556291990511473978811398, 24131607951799556291990511473978811398, 24131607951799556291990511473978811398, 24131607951799556291990511473978811398, 24131607951799556291990511473978811398, 24131607951799556291990511473978811398, 24131607951799556291990511473978811398, 24131607951799556291990511473978811398, 24131607951799556291990511473978811398, 24131607951799556291990511473978811398, 24131607951799556291990511473978811398, 24131607951799556291990511473978811398, 24131607951799556291990511473978811398, 24131607951799556291990511473978811398, 24131607951799556291990511473978811398, 24131607951799556291990511473978811398, 24131607951799556291990511473978811398, 24131607951799556291990511473978811398, 24131607951799556291990511473978811398, 24131607951799556291990511473978811398, 24131607951799556291990511473978811398, 24131607951799556291990511473978811398, 24131607951799556291990511473978811398, 24131607951799556291990511473978811398, 24131607951799556291990511473978811398, 24131607951799556291990511473978811398, 24131607951799556291990511473978811398, 24131607951799556291990511473978811398, 24131607951799556291990511473978811398, 24131607951799556291990511473978811398, 24131607951799556291990511473978811398, 24131607951799556291990511473978811398, 24131607951799556291990511473978811398, 24131607951799556291990511473978811398, 24131607951799556291990511473978811398, 24131607951799556291990511473978811398, 24131607951799556291990511473978811398, 24131607951799556291990511473978811398, 24131607951799556291990511473978811398, 24131607951799556291990511473978811398, 24131607951799556291990511473978811398, 0]
def tr87 : List Nat := [0, 205330664725970728795241437539138605308, 134911731411016536140422189375888550486, 119059669639916124518498821601969153182, 109457640699994694707088518543003503812, 103410700187013990580292727780600368380, 98997428922973044225779091936319599844, 95781708249625227467608969628185625444, 93163502023805177670675715792248137947, 91080585546984146548704630307387746121, 89304283273732027318412248859290847248, 87805586829002639498381723939042685024, 86483492781315519999246135575896687989, 85332818927327651702683214635858007670, 84292449181334136641669848444523612890, 83364787128439179786032140284245358829, 82512623481895517080165145466001411191, 81738143500582083527607809736664218116, 81017880333844215832142018594010021664, 80354849705999612796914999893600657918, 79731256939988902868399813834808805996, 79151063769153642927718901949677794693, 78601118461720241000368181579240040485, 78084691148582867212822477568511651680, 77591703394202795489351526483819756528, 77125673324895111628137960557880587922, 76678262445957990704992805372496826663, 76252992493074944532584577335419268559, 75842934579393013746380548938247783364, 75451374890936076161093783360568510852, 75072486198985321620104363756474768352, 74706487616670029211285402254686068938, 74348074286527019121924570580408415434, 73997447632432911198450718675438634698, 73652881524559166959564664873698667746, 73314367873680886787290344555655521057, 72980533550232440467504461760634998997, 72651340312490775628176080994150846872, 72325619330206735788392432838297012305, 72003243209073167368730029024733584121, 71683283890108365230431287280158998197, 71365475262498219766768952229899263267, 71049092526421801672977616565039197108, 70733789021283258447912486659301982366, 70418933314954192654819248163250054822, 70418933314954192654819248163250054822, 70418933314954192654819248163250054822, 70418933314954192654819248163250054822, 70418933314954192654819248163250054822, 70418933314954192654819248163250054822, 70418933314954192654819248163250054822, 70418933314954192654819248163250054822, 70418933314954192654819248163250054822, 70418933314954192654819248163250054822, 70418933314954192654819248163250054822, 70418933314954192654819248163250054822, 70418933314954192654819248163250054822, 70418933314954192654819248163250054822, 70418933314954192654819248163250054822, 70418933314954192654819248163250054822, 70418933314954192654819248163250054822, 70418933314954192654819248163250054822, 70418933314954192654819248163250054822, 70418933314954192654819248163250054822, 70418933314954192654819248163250054822, 70418933314954192654819248163250054822, 70418933314954192654819248163250054822, 70418933314954192654819248163250054822, 70418933314954192654819248163250054822, 70418933314954192654819248163250054822, 70418933314954192654819248163250054822, 70418933314954192654819248163250054822, 70418933314954192654819248163250054822, 70418933314954192654819248163250054822, 70418933314954192654819248163250054822, 70418933314954192654819248163250054822, 70418933314954192654819248163250054822, 70418933314954192654819248163250054822, 70418933314954192654819248163250054822, 70418933314954192654819248163250054822, 70418933314954192654819248163250054822, 70418933314954192654819248163250054822, 70418933314954192654819248163250054822, 70418933314954192654819248163250054822, 70418933314954192654819248163250054822, 70418933314954192654819248163250054822, 70418933314954192654819248163250054822, 70418933314954192654819248163250054822, 0]
def tr88 : List Nat := [0, 599402584983067208016814004064034453048, 394071920257096479221572566524895847740, 347784594893941842858743829835624604316, 319808700119433398584319359072576288932, 302153053496072336009840295489552439528, 289301578131667544447878186849038405322, 279914002920149719138826176338514094342, 272293391933857016823012963581507484082, 266213997534365539506634100524383257230, 261046509646284603770565956519469944407, 256673175750621916328747355401870479901, 252828884515577071404099864721822656167, 249472067659459887218505045955329875906, 246448440073727600742979363758171367968, 243742863865130876362798070412899321074, 241267579066450232089492969622805372345, 239009350874617879389538071355845859520, 236918312275135203966793599527495352413, 234985638641916788163576126945406741589, 233176193440259471630497820335368754934, 231485454516117408065942267253170590641, 229890721217043443716244897364242780262, 228386168458948603771387970661002453501, 226957448875419527727734477978147966893, 225600077651425277634921892929200339449, 224304080323632390522542308486407330384, 223065541670622799637501531204906130862, 221878218112521274430170455214829105311, 220737844896728031479358634375982797335, 219641164051652999720005622612872747335, 218583934072687484908262090499212523020, 217547173922432054212509609908669386252, 216535378547799504554639479510442509676, 215539560485071713652259520407179782140, 214563755042936087309682114647856181508, 213599943373495226689206172945730666073, 212652075233592261154316742548786140773, 211712673794210773286456508727037834838, 210785618485741240151695811825861382570, 209863880843712829780082360049409219646, 208951193051889739241846523099677543506, 208040919726725952267165614839760413513, 207136720771339817900939850254909578987, 206232078925289652346470173450093130044, 205330664725970728795241437539138605308, 205330664725970728795241437539138605308, 205330664725970728795241437539138605308, 205330664725970728795241437539138605308, 205330664725970728795241437539138605308, 205330664725970728795241437539138605308, 205330664725970728795241437539138605308, 205330664725970728795241437539138605308, 205330664725970728795241437539138605308, 205330664725970728795241437539138605308, 205330664725970728795241437539138605308, 205330664725970728795241437539138605308, 205330664725970728795241437539138605308, 205330664725970728795241437539138605308, 205330664725970728795241437539138605308, 205330664725970728795241437539138605308, 205330664725970728795241437539138605308, 205330664725970728795241437539138605308, 205330664725970728795241437539138605308, 205330664725970728795241437539138605308, 205330664725970728795241437539138605308, 205330664725970728795241437539138605308, 205330664725970728795241437539138605308, 205330664725970728795241437539138605308, 205330664725970728795241437539138605308, 205330664725970728795241437539138605308, 205330664725970728795241437539138605308, 205330664725970728795241437539138605308, 205330664725970728795241437539138605308, 205330664725970728795241437539138605308, 205330664725970728795241437539138605308, 205330664725970728795241437539138605308, 205330664725970728795241437539138605308, 205330664725970728795241437539138605308, 205330664725970728795241437539138605308, 205330664725970728795241437539138605308, 205330664725970728795241437539138605308, 205330664725970728795241437539138605308, 205330664725970728795241437539138605308, 205330664725970728795241437539138605308, 205330664725970728795241437539138605308, 205330664725970728795241437539138605308, 205330664725970728795241437539138605308, 205330664725970728795241437539138605308, 0]
def tr89 : List Nat := [0, 1748456297106461779000727037374860827182, 1149053712123394570983913033310826374134, 1014141980712378034843490843934937823648, 932449634601850679299480790007173857480, 881015943542499194667344184374217319752, 843490947758396490473718080113113948741, 816156161727725362628868934407521571421, 793908591522487062779910946184116465160, 776214465938503834954644003818706142133, 761131575252222277365171806950050413861, 748409298682620063354297052063887726511, 737190867527219280088538301152867246128, 727430293947642084352762765415546373310, 718609236960403246346537400792491094638, 710746069854083670357157990195040408681, 703526482534970130185105193135445907757, 696967000714206790310319279071466565807, 690869696221459391881560337163678418215, 685258821728374025398604149887050778782, 679984221007123062820190644215261627097, 675078266130011584109079085852798007408, 670430855986857512073676150800571408615, 666067933033103861927431339905191531194, 661905356286495117347873985356498051642, 657971170502989105708447398641918486606, 654195830016929669422329778308348000244, 650607732242406892380430128270809664105, 647149159100482880665312282154024554702, 643846643788042863783545389679500974974, 640651904179034572105609646467060192724, 637591080386952411392136524523040061199, 634596276677842428843726702797841883919, 631669518556951009893792007663606965327, 628795908983695077099438641575783746826, 625975768921217447062369564208266997050, 623197468342218376179613550671038458770, 620460882227007962436821136110579372845, 617756000738319955626897936461903292913, 615082310253120896358367523352024299173, 612431674185368884367301872943602472175, 609802406515138354988561916392308201035, 607188269330296626750817539515758046421, 604586774065617716171071246635463012419, 601992523767519291686733106009236520640, 599402584983067208016814004064034453048, 599402584983067208016814004064034453048, 599402584983067208016814004064034453048, 599402584983067208016814004064034453048, 599402584983067208016814004064034453048, 599402584983067208016814004064034453048, 599402584983067208016814004064034453048, 599402584983067208016814004064034453048, 599402584983067208016814004064034453048, 599402584983067208016814004064034453048, 599402584983067208016814004064034453048, 599402584983067208016814004064034453048, 599402584983067208016814004064034453048, 599402584983067208016814004064034453048, 599402584983067208016814004064034453048, 599402584983067208016814004064034453048, 599402584983067208016814004064034453048, 599402584983067208016814004064034453048, 599402584983067208016814004064034453048, 599402584983067208016814004064034453048, 599402584983067208016814004064034453048, 599402584983067208016814004064034453048, 599402584983067208016814004064034453048, 599402584983067208016814004064034453048, 599402584983067208016814004064034453048, 599402584983067208016814004064034453048, 599402584983067208016814004064034453048, 599402584983067208016814004064034453048, 599402584983067208016814004064034453048, 599402584983067208016814004064034453048, 599402584983067208016814004064034453048, 599402584983067208016814004064034453048, 599402584983067208016814004064034453048, 599402584983067208016814004064034453048, 599402584983067208016814004064034453048, 599402584983067208016814004064034453048, 599402584983067208016814004064034453048, 599402584983067208016814004064034453048, 599402584983067208016814004064034453048, 599402584983067208016814004064034453048, 599402584983067208016814004064034453048, 599402584983067208016814004064034453048, 599402584983067208016814004064034453048, 599402584983067208016814004064034453048, 599402584983067208016814004064034453048, 0]
def tr90 : List Nat := [0, 5105979424045495074461032074310460225151, 3357523126939033295460305036935599397969, 2963451206681936816238732470410703550229, 2725331867402104567201734827206765243865, 2575104927512815695382284452039014228393, 2465782809815996045052279717307130142565, 2385954863298861207762979500000404729405, 2321170991343677619982038599509450735891, 2269508150392982356976694434469933353485, 2225607051311936499472604482669151221126, 2188469021873852908867248407925302493114, 2155832330131850898705123397864467770055, 2127345993060818144434317289771675086883, 2101695765458377692396619027544643911133, 2078753673433708111783744704165734161737, 2057770337628202994564387306609762110100, 2038636595247410158715549153533820639425, 2020924685027082656596629987128199571323, 2004562146639595378782951404535475727160, 1989248093869707156653740467230151390316, 1974945537725162292839994080035534088967, 1961459377183955916049348683604207017268, 1948743459986191812612760002603077824058, 1936671892234785496190378644936174379290, 1925208337744109059008310680800649214666, 1914264994894294416042161167020092717066, 1903811155007842019314994399923629488594, 1893790410008144694786971116353825936052, 1884168814446080879420457317821582180556, 1874915485907463380571822810616174030556, 1865997034547374984693338499794676522798, 1857326672726544763988848787188411101998, 1848872387447588102505131231928801033678, 1840560074142289105126056555717506571736, 1832422059996151304463696889111269034145, 1824392593844279742818166644439379709105, 1816504062267586238733256805458069247705, 1808694810311938652743779442965205566098, 1800996274205098292084226527840201302370, 1793351659725975322997590802813895045980, 1785790688576798218878174654334130333450, 1778259891685210043928272352355279169336, 1770788876859676010976473100958425412940, 1763324889176774075613915578897849825207, 1755897696312595095363038652931516679631, 1748456297106461779000727037374860827182, 1748456297106461779000727037374860827182, 1748456297106461779000727037374860827182, 1748456297106461779000727037374860827182, 1748456297106461779000727037374860827182, 1748456297106461779000727037374860827182, 1748456297106461779000727037374860827182, 1748456297106461779000727037374860827182, 1748456297106461779000727037374860827182, 1748456297106461779000727037374860827182, 1748456297106461779000727037374860827182, 1748456297106461779000727037374860827182, 1748456297106461779000727037374860827182, 1748456297106461779000727037374860827182, 1748456297106461779000727037374860827182, 1748456297106461779000727037374860827182, 1748456297106461779000727037374860827182, 1748456297106461779000727037374860827182, 1748456297106461779000727037374860827182, 1748456297106461779000727037374860827182, 1748456297106461779000727037374860827182, 1748456297106461779000727037374860827182, 1748456297106461779000727037374860827182, 1748456297106461779000727037374860827182, 1748456297106461779000727037374860827182, 1748456297106461779000727037374860827182, 1748456297106461779000727037374860827182, 1748456297106461779000727037374860827182, 1748456297106461779000727037374860827182, 1748456297106461779000727037374860827182, 1748456297106461779000727037374860827182, 1748456297106461779000727037374860827182, 1748456297106461779000727037374860827182, 1748456297106461779000727037374860827182, 1748456297106461779000727037374860827182, 1748456297106461779000727037374860827182, 1748456297106461779000727037374860827182, 1748456297106461779000727037374860827182, 1748456297106461779000727037374860827182, 1748456297106461779000727037374860827182, 1748456297106461779000727037374860827182, 1748456297106461779000727037374860827182, 1748456297106461779000727037374860827182, 1748456297106461779000727037374860827182, 1748456297106461779000727037374860827182, 0]
def tr91 : List Nat := [0, 14899809690219276302097816334092485528142, 9793830266173781227636784259782025302991, 8644776554050386656652871226471198928857, 7949207364262502970935383566799949720225, 7511376801462524192107029492627935704977, 7192056261300640205319570210817254320325, 6959507777709572030251363234089407915705, 6770307065163113588409070513872672085163, 6619873076303205879458932207405469033555, 6491687109035300555711058506930335488917, 6383593607011891994707040305282500258477, 6288319253982143576777164160818374120597, 6205447852456944887115691305606046342500, 6130584657375144974760849572104483332802, 6063873133206671760504622136264284800115, 6002648483796567839042415981481962292579, 5947037392049616705305062791489037339254, 5895370431585556477038163936888155297261, 5847839151243848516735536200575844636753, 5803178202072013597917375824096168291751, 5761652519903802863857514917528037063953, 5722334053876595297325759078755608169418, 5685433950478753345038851134754880981687, 5650249527002156048805829013408221913583, 5617001845780293660212014769036212050807, 5585110342411575555564207510999814157347, 5554804943113232990266395103940059599357, 5525604797042086782436795688461751500905, 5497723391764200368205852844526610193021, 5470758908436898668648534417211201773271, 5444922174183072522570849636327372164071, 5419854155840932014497611472496831291367, 5395377856415332216678985114138133796167, 5371366761166483651907143428733409314972, 5347826429210738195190467138359153210250, 5324655981047799216741393599572449209485, 5301857620869704290942963583773233724285, 5279346532948853373567851574127802546869, 5257120121773579465512973957727795026441, 5235108471241778597418444626049480603633, 5213302116825025056427693993426771111983, 5191645843988179046141163786196643404230, 5170123371659112174249951814588880364834, 5148688174988305860727253258093232697700, 5127319197562571813479726137240260750348, 5105979424045495074461032074310460225151, 5105979424045495074461032074310460225151, 5105979424045495074461032074310460225151, 5105979424045495074461032074310460225151, 5105979424045495074461032074310460225151, 5105979424045495074461032074310460225151, 5105979424045495074461032074310460225151, 5105979424045495074461032074310460225151, 5105979424045495074461032074310460225151, 5105979424045495074461032074310460225151, 5105979424045495074461032074310460225151, 5105979424045495074461032074310460225151, 5105979424045495074461032074310460225151, 5105979424045495074461032074310460225151, 5105979424045495074461032074310460225151, 5105979424045495074461032074310460225151, 5105979424045495074461032074310460225151, 5105979424045495074461032074310460225151, 5105979424045495074461032074310460225151, 5105979424045495074461032074310460225151, 5105979424045495074461032074310460225151, 5105979424045495074461032074310460225151, 5105979424045495074461032074310460225151, 5105979424045495074461032074310460225151, 5105979424045495074461032074310460225151, 5105979424045495074461032074310460225151, 5105979424045495074461032074310460225151, 5105979424045495074461032074310460225151, 5105979424045495074461032074310460225151, 5105979424045495074461032074310460225151, 5105979424045495074461032074310460225151, 5105979424045495074461032074310460225151, 5105979424045495074461032074310460225151, 5105979424045495074461032074310460225151, 5105979424045495074461032074310460225151, 5105979424045495074461032074310460225151, 5105979424045495074461032074310460225151, 5105979424045495074461032074310460225151, 5105979424045495074461032074310460225151, 5105979424045495074461032074310460225151, 5105979424045495074461032074310460225151, 5105979424045495074461032074310460225151, 5105979424045495074461032074310460225151, 5105979424045495074461032074310460225151, 5105979424045495074461032074310460225151, 5105979424045495074461032074310460225151, 0]
def tr92 : List Nat := [0, 43526268771624994714107782526434303684946, 28626459081405718412009966192341818156804, 25268935954466685116549661155406218758835, 23240651993041929046862679467536343111539, 21961417192564195452525402031246037955811, 21030720890881069537302767481220634640391, 20351360249028271858188528798410224052851, 19800168907674826941897598657845995608952, 19360772977146987732366940488618803798288, 18987498245526701022833928503672905083104, 18671844258740582808628017821256125697572, 18394526462371438240015550855544216415022, 18152581168428152590308712718963805399527, 17934781098769408017452859175407379353885, 17740057248990676581757129722552079439504, 17562017602822139297372133372408924160957, 17399741785721621924840686044528204354657, 17249566365439173109918203313499299128910, 17110900973187205916489520073770234629557, 16981158139764666334964816353605486200957, 16860043208870940012590010529087535895973, 16745879499376763920879614621680747936091, 16638287522143134703374652601313059554589, 16536179428770029794088543815728659642053, 16439264037612629201761241919370303437079, 16346762206521261403977294571696467897549, 16258434212507203640022336230371969451950, 16173775475121799734982565365552862480026, 16092517684000262043679531891417328949934, 16014370119184040461819556328216525860059, 15939066605139891013521282053993952465076, 15866432058517274389417664990540035788980, 15795665424364294255898824640544799747604, 15726150055831575163427657465471907289279, 15658151036543094885200755805105902970534, 15591127309190908474625757543237604239904, 15525338598868811518271882102788058694829, 15460280116763395790332632295100376262141, 15396209870474347312587414155575373680477, 15332660126915758360837235185983254007719, 15269871629980431055467151539916573319839, 15207413467991865169003964580976276738174, 15145521408015799958102325132703739103532, 15083770971430023480389893224679760216898, 15022403207543716471749751575951342417202, 14961005968116152685682938547212008509783, 14899809690219276302097816334092485528142, 14899809690219276302097816334092485528142, 14899809690219276302097816334092485528142, 14899809690219276302097816334092485528142, 14899809690219276302097816334092485528142, 14899809690219276302097816334092485528142, 14899809690219276302097816334092485528142, 14899809690219276302097816334092485528142, 14899809690219276302097816334092485528142, 14899809690219276302097816334092485528142, 14899809690219276302097816334092485528142, 14899809690219276302097816334092485528142, 14899809690219276302097816334092485528142, 14899809690219276302097816334092485528142, 14899809690219276302097816334092485528142, 14899809690219276302097816334092485528142, 14899809690219276302097816334092485528142, 14899809690219276302097816334092485528142, 14899809690219276302097816334092485528142, 14899809690219276302097816334092485528142, 14899809690219276302097816334092485528142, 14899809690219276302097816334092485528142, 14899809690219276302097816334092485528142, 14899809690219276302097816334092485528142, 14899809690219276302097816334092485528142, 14899809690219276302097816334092485528142, 14899809690219276302097816334092485528142, 14899809690219276302097816334092485528142, 14899809690219276302097816334092485528142, 14899809690219276302097816334092485528142, 14899809690219276302097816334092485528142, 14899809690219276302097816334092485528142, 14899809690219276302097816334092485528142, 14899809690219276302097816334092485528142, 14899809690219276302097816334092485528142, 14899809690219276302097816334092485528142, 14899809690219276302097816334092485528142, 14899809690219276302097816334092485528142, 14899809690219276302097816334092485528142, 14899809690219276302097816334092485528142, 14899809690219276302097816334092485528142, 14899809690219276302097816334092485528142, 14899809690219276302097816334092485528142, 14899809690219276302097816334092485528142, 14899809690219276302097816334092485528142, 14899809690219276302097816334092485528142, 0]
def tr93 : List Nat := [0, 127061689398994222722236147304683259567241, 83535420627369228008128364778248955882295, 73741590361195446780491580518466930579304, 67814687947831573148014115577645523478846, 64084889409424170430816192417616828048926, 61365511927959519406727629758210856093174, 59385563349500058522212047919484464096294, 57775268973418547801370478065599869894361, 56495242051692799066619715721685160960899, 55404921692352363318292774768119641521481, 54485765038950882053415839822271228905695, 53675915591056997017580725871847377425369, 52971687530822517098563960456108894270990, 52335792195893247789538050488896853185220, 51769284713796336942037163964062691000617, 51249587083482755513371510606986863871130, 50777694107635526057978281340442381472380, 50339459055663435060048747914490602347837, 49936412418385547898880573872974421926302, 49557892410494649413889948340184554895600, 49206043977646313126973174618258264826941, 48873057631339123532392765670587264960392, 48560655458556494731992258829251919441201, 48262921003745409192705650990564370462601, 47981663912133144332236912634117304317407, 47711991608137305403570639652751847125122, 47455768336116345631556506237924770502726, 47208985266061976617287212320419139255485, 46973367316255151584909641310025507513085, 46745571033825324864333200302916384262210, 46527292091268165142496470595139163793866, 46315541445016295372484763028303043724746, 46110495225663984721799560602032211838922, 45909510241478861359493123518434951965621, 45712643882959507295191850500483368708046, 45519037958558139094440812265752314081371, 45328735010921026927638852361410358070721, 45140997226282422352519512064842378938688, 44955830121683060238184215261342921111936, 44772640505991336264805624267480565885232, 44591364100893747080611270387028067259102, 44411524131421716062958050453400921236314, 44233023226075987779107584196240389732504, 44055447821806398931648831207631940690211, 43878659790865054729473411725342724582515, 43702338237549905146191617692422646385553, 43526268771624994714107782526434303684946, 43526268771624994714107782526434303684946, 43526268771624994714107782526434303684946, 43526268771624994714107782526434303684946, 43526268771624994714107782526434303684946, 43526268771624994714107782526434303684946, 43526268771624994714107782526434303684946, 43526268771624994714107782526434303684946, 43526268771624994714107782526434303684946, 43526268771624994714107782526434303684946, 43526268771624994714107782526434303684946, 43526268771624994714107782526434303684946, 43526268771624994714107782526434303684946, 43526268771624994714107782526434303684946, 43526268771624994714107782526434303684946, 43526268771624994714107782526434303684946, 43526268771624994714107782526434303684946, 43526268771624994714107782526434303684946, 43526268771624994714107782526434303684946, 43526268771624994714107782526434303684946, 43526268771624994714107782526434303684946, 43526268771624994714107782526434303684946, 43526268771624994714107782526434303684946, 43526268771624994714107782526434303684946, 43526268771624994714107782526434303684946, 43526268771624994714107782526434303684946, 43526268771624994714107782526434303684946, 43526268771624994714107782526434303684946, 43526268771624994714107782526434303684946, 43526268771624994714107782526434303684946, 43526268771624994714107782526434303684946, 43526268771624994714107782526434303684946, 43526268771624994714107782526434303684946, 43526268771624994714107782526434303684946, 43526268771624994714107782526434303684946, 43526268771624994714107782526434303684946, 43526268771624994714107782526434303684946, 43526268771624994714107782526434303684946, 43526268771624994714107782526434303684946, 43526268771624994714107782526434303684946, 43526268771624994714107782526434303684946, 43526268771624994714107782526434303684946, 43526268771624994714107782526434303684946, 43526268771624994714107782526434303684946, 43526268771624994714107782526434303684946, 43526268771624994714107782526434303684946, 43526268771624994714107782526434303684946, 0]
def tr94 : List Nat := [0, 371303316856411407853784345662665505368198, 244241627457417185131548198357982245800957, 215615168376011466719538232165640427644153, 198325615267910693406232489712698029786439, 187424287798302275137425550403870968810979, 179495144306419782385419452744503012933211, 173709112743786431496461889007522244826771, 169015809039554795350549049495741149180015, 165275789330014886354484070199784813674953, 162099378740036272589622592947048870250618, 159414285279644096637284835857050848358954, 157055967704516008913342495442984162503275, 154999222176694467919660655128429388716934, 153148241030001321139988978380223279250860, 151494101192062627401603901948061831523819, 149982077947159051701546854454310496061526, 148604501272472303723623797363534230737201, 147330060525728793102270560531170972198276, 146153803378937881985235130259999170377400, 145053530165176574118796217150399617028086, 144026929715820591337048823655863805094622, 143059519112733123750679123818755260083288, 142148234524925058217747202293570965417843, 141283682723041896420419680428611691225283, 140463492189302520540112759271304775861741, 139680825212832031339586802234554279361708, 138933770685086217417033670463290521909314, 138217836056341208289408825095929874489881, 137530909900225972898461341066915992823277, 136870310049787321893367734860187800023777, 136233930994100756624924570286414533996395, 135620047448046194494486837351648622472043, 135026699824318298341694608919906987099275, 134444346125474081087538659160957073732251, 133875160019023793772039452766929861407860, 133314644680369083315643479379778594101735, 132764932219586545647681342862223996049610, 132221874700679872551193087843145775752524, 131687542191213974455527966051256883138392, 131158112499664552998840125591492179052920, 130635561925511740801910459014310070313480, 130116346706960976414103578940400930334367, 129602377093606320544370728080251541859735, 129090237564860415744450688869601338183370, 128581849158232293987288028439365780363378, 128073902668918221997695175657658021377916, 127568263620441529721094740242217457873730, 127061689398994222722236147304683259567241, 127061689398994222722236147304683259567241, 127061689398994222722236147304683259567241, 127061689398994222722236147304683259567241, 127061689398994222722236147304683259567241, 127061689398994222722236147304683259567241, 127061689398994222722236147304683259567241, 127061689398994222722236147304683259567241, 127061689398994222722236147304683259567241, 127061689398994222722236147304683259567241, 127061689398994222722236147304683259567241, 127061689398994222722236147304683259567241, 127061689398994222722236147304683259567241, 127061689398994222722236147304683259567241, 127061689398994222722236147304683259567241, 127061689398994222722236147304683259567241, 127061689398994222722236147304683259567241, 127061689398994222722236147304683259567241, 127061689398994222722236147304683259567241, 127061689398994222722236147304683259567241, 127061689398994222722236147304683259567241, 127061689398994222722236147304683259567241, 127061689398994222722236147304683259567241, 127061689398994222722236147304683259567241, 127061689398994222722236147304683259567241, 127061689398994222722236147304683259567241, 127061689398994222722236147304683259567241, 127061689398994222722236147304683259567241, 127061689398994222722236147304683259567241, 127061689398994222722236147304683259567241, 127061689398994222722236147304683259567241, 127061689398994222722236147304683259567241, 127061689398994222722236147304683259567241, 127061689398994222722236147304683259567241, 127061689398994222722236147304683259567241, 127061689398994222722236147304683259567241, 127061689398994222722236147304683259567241, 127061689398994222722236147304683259567241, 127061689398994222722236147304683259567241, 127061689398994222722236147304683259567241, 127061689398994222722236147304683259567241, 127061689398994222722236147304683259567241, 127061689398994222722236147304683259567241, 127061689398994222722236147304683259567241, 127061689398994222722236147304683259567241, 127061689398994222722236147304683259567241, 127061689398994222722236147304683259567241, 0]
def tr95 : List Nat := [0, 1084281854482670569883372001343890006808986, 712978537626259162029587655681224501440788, 629443116998889934021459290902975545558493, 578905245089956563788359968592163108040823, 547108415632906551904618434324963309159923, 523932471285291210646177874256612181104386, 507062652330123280836703512654349902129566, 493346866187035944598901030013762711506808, 482446736450250738811431971266069679367009, 473165501666521487021846408052588486661101, 465343237768362503608602348680268580996901, 458453757066052033368905319485408072729135, 452464502252436829396095905569335934241050, 447058408302892096669210551062653493676590, 442243524324998620152819114398114549723165, 437828434885179537781964388860975981824351, 433820480065485264079347433211724888238826, 430099929877887896549956537725128338957544, 426679224531662037957652248965025443036270, 423468053937465849750694143654900881309533, 420483937280005395582610336363898067551448, 417661181834060779442446977720087784745010, 415013649650880925417659871062383203964415, 412491637496243646737436268383874862878903, 410109983515597300818613088935599151177891, 407827341889384987940176718279798694681112, 405658973195579895455124410325320006276609, 403571284933691529513580676916390445813597, 401578236485941295383651077857510829092161, 399651991125208569454990113384319579261786, 397806246143838814586470024775170434056515, 396016135846773129112814935978055585434947, 394295632998389277270644343260678759941987, 392610460823696979888561874811803135366444, 390961244909553091367820283832737785271260, 389340665621075146190518944232795797348495, 387749173691936324542516221465933470536620, 386180488136766135351407724331460237714685, 384634857418792601646324021624919359514341, 383107094178753618567675297759339330020939, 381596889638785281602480383090686604783019, 380100190659033790145029904448961901657075, 378616311152660252209752130417135183391393, 377141673502709153018838683198766999622765, 375675446802782121824693952304642900437205, 374214747766881847552714280788956730815706, 372758104635597816573307754436403038421020, 371303316856411407853784345662665505368198, 371303316856411407853784345662665505368198, 371303316856411407853784345662665505368198, 371303316856411407853784345662665505368198, 371303316856411407853784345662665505368198, 371303316856411407853784345662665505368198, 371303316856411407853784345662665505368198, 371303316856411407853784345662665505368198, 371303316856411407853784345662665505368198, 371303316856411407853784345662665505368198, 371303316856411407853784345662665505368198, 371303316856411407853784345662665505368198, 371303316856411407853784345662665505368198, 371303316856411407853784345662665505368198, 371303316856411407853784345662665505368198, 371303316856411407853784345662665505368198, 371303316856411407853784345662665505368198, 371303316856411407853784345662665505368198, 371303316856411407853784345662665505368198, 371303316856411407853784345662665505368198, 371303316856411407853784345662665505368198, 371303316856411407853784345662665505368198, 371303316856411407853784345662665505368198, 371303316856411407853784345662665505368198, 371303316856411407853784345662665505368198, 371303316856411407853784345662665505368198, 371303316856411407853784345662665505368198, 371303316856411407853784345662665505368198, 371303316856411407853784345662665505368198, 371303316856411407853784345662665505368198, 371303316856411407853784345662665505368198, 371303316856411407853784345662665505368198, 371303316856411407853784345662665505368198, 371303316856411407853784345662665505368198, 371303316856411407853784345662665505368198, 371303316856411407853784345662665505368198, 371303316856411407853784345662665505368198, 371303316856411407853784345662665505368198, 371303316856411407853784345662665505368198, 371303316856411407853784345662665505368198, 371303316856411407853784345662665505368198, 371303316856411407853784345662665505368198, 371303316856411407853784345662665505368198, 371303316856411407853784345662665505368198, 371303316856411407853784345662665505368198, 371303316856411407853784345662665505368198, 371303316856411407853784345662665505368198, 371303316856411407853784345662665505368198, 0]
def tr96 : List Nat := [0, 3169530737734496110216425125542958552705340, 2085248883251825540333053124199068545896354, 1841007255794408355201504925841086300095397, 1693524075072017461640521764804152438936789, 1600561467099849745453071046934007066490633, 1532959075886687027724107781500355645145840, 1483643419690367106823062187154213042294540, 1443651767765708564054247609368244485294911, 1411793440909447293085955092629208109657317, 1384742507001993001560989817427913949059380, 1361884204425858065455606582126721670319748, 1341812788377048999570324622002072837382706, 1324314488615703821957258406897858486959132, 1308571218232323148820890936574941847047178, 1294507372744449867209460447372862599161824, 1281655295323881152811866845468733517625073, 1269951142020970123404457148127122173438473, 1259125956896228641655952574910495733070434, 1249138847381329486757510433669828984285672, 1239799860461776767871234947400613561504822, 1231089903556591524700171014359287660641798, 1222884263691491242190589286965776679840758, 1215158477852939544603935800590156565433874, 1207830896692322243687666546497314005246530, 1200882658819725387167950960968168671205892, 1194253956583399567293911133797219228323080, 1187929295891373260477251863537418943337482, 1181869194646425994358852859991872576145786, 1176056706121144749827999929630570926227270, 1170467345735122178088778964297278106520395, 1165084538834917782091508261649078136744877, 1159891859930164320790417137132059043611565, 1154873853379908341937339731873965663597901, 1149987437035372814986998145826861282497566, 1145215057682256597918030568826341766001153, 1140519431555052034886090371261015443387793, 1135918060851562706966224269080599317732718, 1131376503985895029514558012353369263870493, 1126911767753545596111948843696387374812753, 1122492501188695622414076044578452989160069, 1118134538237370986469533271021130247178599, 1113808982576368721882172947210721181718807, 1109531525244778048388720043064192698042791, 1105274105095351136551614834769876972204338, 1101052300345441482336451989822077081361106, 1096839545099507467108410418334196310292911, 1092650684142144423297562648602853716378064, 1088459736800533971570309157099799104131742, 1084281854482670569883372001343890006808986, 1084281854482670569883372001343890006808986, 1084281854482670569883372001343890006808986, 1084281854482670569883372001343890006808986, 1084281854482670569883372001343890006808986, 1084281854482670569883372001343890006808986, 1084281854482670569883372001343890006808986, 1084281854482670569883372001343890006808986, 1084281854482670569883372001343890006808986, 1084281854482670569883372001343890006808986, 1084281854482670569883372001343890006808986, 1084281854482670569883372001343890006808986, 1084281854482670569883372001343890006808986, 1084281854482670569883372001343890006808986, 1084281854482670569883372001343890006808986, 1084281854482670569883372001343890006808986, 1084281854482670569883372001343890006808986, 1084281854482670569883372001343890006808986, 1084281854482670569883372001343890006808986, 1084281854482670569883372001343890006808986, 1084281854482670569883372001343890006808986, 1084281854482670569883372001343890006808986, 1084281854482670569883372001343890006808986, 1084281854482670569883372001343890006808986, 1084281854482670569883372001343890006808986, 1084281854482670569883372001343890006808986, 1084281854482670569883372001343890006808986, 1084281854482670569883372001343890006808986, 1084281854482670569883372001343890006808986, 1084281854482670569883372001343890006808986, 1084281854482670569883372001343890006808986, 1084281854482670569883372001343890006808986, 1084281854482670569883372001343890006808986, 1084281854482670569883372001343890006808986, 1084281854482670569883372001343890006808986, 1084281854482670569883372001343890006808986, 1084281854482670569883372001343890006808986, 1084281854482670569883372001343890006808986, 1084281854482670569883372001343890006808986, 1084281854482670569883372001343890006808986, 1084281854482670569883372001343890006808986, 1084281854482670569883372001343890006808986, 1084281854482670569883372001343890006808986, 1084281854482670569883372001343890006808986, 1084281854482670569883372001343890006808986, 1084281854482670569883372001343890006808986, 1084281854482670569883372001343890006808986, 1084281854482670569883372001343890006808986, 0]
def tr97 : List Nat := [0, 9258787126882096302306300455228130982173610, 6089256389147600192089875329685172429468270, 5376277851521341030060287674003947928027482, 4945047514769318096621211209672667072739176, 4673788762977991804029154747362084978823792, 4476136008244914044956426129080870637221493, 4332294883018901240850034724864525550814993, 4215383094717257041669648729364505719074148, 4122495789509126055324399148660964092650428, 4043430232241419490090928820805222265253118, 3976809236919215397711393283156191293206110, 3918154479485445171959607558744001785485916, 3867176597815415392355153652920918632272771, 3821179376547626341171194135883318924778661, 3780223840472878449080504831445711025421100, 3742682869975013287459815379361871133606918, 3708612809207099207490305084435040419103168, 3676999716454328495230270775110579599784217, 3647941515464566250576264585363945118442139, 3620674421400238814284164175279524321864230, 3595343279832807425887915590588882608239504, 3571392013045312786782229301835585462970198, 3548933302679926853342637988210811496161931, 3527549857956137576276535550303087876592659, 3507361985803075514073202954933426619771527, 3488022770997017175595582563024241247841318, 3469654683391399142303527322243979048893949, 3451976530916111648383839455236741905962791, 3435102426695430837553744340911569526535711, 3418799344433745704211204889666584439848086, 3403178107990918957811751519123643010908681, 3388031775386812622926649142067125306605065, 3373473308803971622009564392019917069971785, 3359321689077794354324132782322626120939478, 3345483439892574432401442751959217946718993, 3331895583392258741441762665173089096986098, 3318563118483028122369779134022423172179298, 3305432428765222306121657035294025485238865, 3292506413463690483212741873396126228839965, 3279740841892775345676051750034397818479575, 3267134831054896790676796230320352909954835, 3254652673297024046868181076768760174293188, 3242290548363639130557069616678882222065700, 3230018033679253594658170562451401937797836, 3217829278963945975749704079032676263154804, 3205699210599772716866358148156604043975400, 3193618251046223640249933631734431894264065, 3181566365916225144070420512820655402341096, 3169530737734496110216425125542958552705340, 3169530737734496110216425125542958552705340, 3169530737734496110216425125542958552705340, 3169530737734496110216425125542958552705340, 3169530737734496110216425125542958552705340, 3169530737734496110216425125542958552705340, 3169530737734496110216425125542958552705340, 3169530737734496110216425125542958552705340, 3169530737734496110216425125542958552705340, 3169530737734496110216425125542958552705340, 3169530737734496110216425125542958552705340, 3169530737734496110216425125542958552705340, 3169530737734496110216425125542958552705340, 3169530737734496110216425125542958552705340, 3169530737734496110216425125542958552705340, 3169530737734496110216425125542958552705340, 3169530737734496110216425125542958552705340, 3169530737734496110216425125542958552705340, 3169530737734496110216425125542958552705340, 3169530737734496110216425125542958552705340, 3169530737734496110216425125542958552705340, 3169530737734496110216425125542958552705340, 3169530737734496110216425125542958552705340, 3169530737734496110216425125542958552705340, 3169530737734496110216425125542958552705340, 3169530737734496110216425125542958552705340, 3169530737734496110216425125542958552705340, 3169530737734496110216425125542958552705340, 3169530737734496110216425125542958552705340, 3169530737734496110216425125542958552705340, 3169530737734496110216425125542958552705340, 3169530737734496110216425125542958552705340, 3169530737734496110216425125542958552705340, 3169530737734496110216425125542958552705340, 3169530737734496110216425125542958552705340, 3169530737734496110216425125542958552705340, 3169530737734496110216425125542958552705340, 3169530737734496110216425125542958552705340, 3169530737734496110216425125542958552705340, 3169530737734496110216425125542958552705340, 3169530737734496110216425125542958552705340, 3169530737734496110216425125542958552705340, 3169530737734496110216425125542958552705340, 3169530737734496110216425125542958552705340, 3169530737734496110216425125542958552705340, 3169530737734496110216425125542958552705340, 3169530737734496110216425125542958552705340, 3169530737734496110216425125542958552705340, 3169530737734496110216425125542958552705340, 0]
def tr98 : List Nat := [0, 27073077643217601304392357201491383910929463, 17814290516335505002086056746263252928755853, 15729041633083679461753003622064184382859499, 14470155399085899593710085040258233291742513, 13676852938014256820085155081407441172596757, 13100088933329439286207809349648889720156423, 12679474515511817895461754000024477027348603, 12338458634404048865979437201554096039479058, 12066881628416838584441538685411490303379811, 11836345932033102945460009416277334579166310, 11641605235836974631047167212713810000638688, 11470647758280906491943817996204493892896960, 11321662319018082471505576329498152382554275, 11187652808404729975823503481507696268413083, 11067983070942645121599422367921724069798910, 10958654735947504362469155230815865678750277, 10859128086835180292510979872927074249405227, 10767100092522179164437747213189474062333377, 10682233918335238692350879284276097628271546, 10602894457579560543985869189007131937221212, 10528928943445440206331187237023513285959104, 10459267816676908282389573983634970377166648, 10393708045303307601294406623015584261118552, 10331543250499224081285067349625358069286720, 10272625619440986898550512967047677734471534, 10216432900473395670938510113102098060847444, 10162839218220140472601721662527446136823266, 10111494755717085394695983515829704637381378, 10062265385620744368871054042161747084238710, 10014932148295741438826081213642161576101960, 9969362067281222795761414293636071695474459, 9925401565890113456002352582243842272526107, 9882929519847983792081716381130047496235323, 9841866085683999578356547679373305528462325, 9801788935818471796533349627985666062744388, 9762388852499110434777027407299836008325613, 9723808349053030181880508401725695236387388, 9685762194726910394020827866450177490659596, 9648390099378926228862425490955279454011864, 9611432042985162916759312988533917849565214, 9575018097093185784086648306399211811633564, 9538911728651474755048825218039129263164090, 9503238625417082732151264286736827854847132, 9467770274007775655847252681859534727728780, 9432634753909266715919755815566586207045964, 9397614084615172867895636150766247667541585, 9362828568549220607707443254914157438094773, 9328070113140572259608668783058201991248228, 9293459320761150004448347708807927964372366, 9258787126882096302306300455228130982173610, 9258787126882096302306300455228130982173610, 9258787126882096302306300455228130982173610, 9258787126882096302306300455228130982173610, 9258787126882096302306300455228130982173610, 9258787126882096302306300455228130982173610, 9258787126882096302306300455228130982173610, 9258787126882096302306300455228130982173610, 9258787126882096302306300455228130982173610, 9258787126882096302306300455228130982173610, 9258787126882096302306300455228130982173610, 9258787126882096302306300455228130982173610, 9258787126882096302306300455228130982173610, 9258787126882096302306300455228130982173610, 9258787126882096302306300455228130982173610, 9258787126882096302306300455228130982173610, 9258787126882096302306300455228130982173610, 9258787126882096302306300455228130982173610, 9258787126882096302306300455228130982173610, 9258787126882096302306300455228130982173610, 9258787126882096302306300455228130982173610, 9258787126882096302306300455228130982173610, 9258787126882096302306300455228130982173610, 9258787126882096302306300455228130982173610, 9258787126882096302306300455228130982173610, 9258787126882096302306300455228130982173610, 9258787126882096302306300455228130982173610, 9258787126882096302306300455228130982173610, 9258787126882096302306300455228130982173610, 9258787126882096302306300455228130982173610, 9258787126882096302306300455228130982173610, 9258787126882096302306300455228130982173610, 9258787126882096302306300455228130982173610, 9258787126882096302306300455228130982173610, 9258787126882096302306300455228130982173610, 9258787126882096302306300455228130982173610, 9258787126882096302306300455228130982173610, 9258787126882096302306300455228130982173610, 9258787126882096302306300455228130982173610, 9258787126882096302306300455228130982173610, 9258787126882096302306300455228130982173610, 9258787126882096302306300455228130982173610, 9258787126882096302306300455228130982173610, 9258787126882096302306300455228130982173610, 9258787126882096302306300455228130982173610, 9258787126882096302306300455228130982173610, 9258787126882096302306300455228130982173610, 9258787126882096302306300455228130982173610, 9258787126882096302306300455228130982173610, 0]
def tr99 : List Nat := [0, 79111300823431961207326177615305243356363939, 52038223180214359902933820413813859445434476, 45948966791066759710843945084128687015966206, 42266952279477943000440935232446514415775412, 39951331299118116745287495358077861983612120, 38264512708933396269050665404443023264313309, 37037202470374205880916112809278806142449829, 36039985818171820559864874898156705163860130, 35247859891547736270021013648033602529896059, 34573815970881020509998935400996032323911014, 34006011815742862691084517233011294715170708, 33506269142556401819992446132043852890803461, 33072035525301416594076231285317275620410692, 32680374274660362263210261180243062283703602, 32331727716892878014861256192450972154370904, 32012266786523916329200138485092759985016919, 31722421835584904120460794506762078054002394, 31453578131819897731492965418168810678446176, 31206526074510212414579790556254235529508632, 30974803010008298627812162919355570770582366, 30759583520552021047171336489818961779092655, 30556169883213256395915732367075833174534762, 30365491078737653105786313151243734314307191, 30184018059651123676184728723578617229481319, 30012734792537656499408149385841078156261629, 29848732890765984228951594265633624941843518, 29692997459873440980495846433330626168926822, 29543170147165694018646052338670097922800729, 29400175192469329260918658202281321084518265, 29262064690233329041613577827908421521805890, 29129744651995077845083732473758286187305546, 29001483043113070304502639451880099221601866, 28878194757120497865512884857933161370472778, 28758374359805365890322604603032186040462331, 28642083402527942067587924826249952282427513, 28527976262038606245783385123167592256780158, 28416106148438042851325515424182129012742533, 28306010993634918699709967049126941576125114, 28197725401814730031808925406539381589149946, 28090871125751772216842988631021369275626944, 27985447826973567964195444911728552889264194, 27881150332413146222596953164416789557838529, 27777960945303552277178525106330822277892093, 27675610728961622928099432465316429284872986, 27574066831410761554356551343395544701363098, 27473115630194073948832414405181171808965746, 27372686513242998015676613703874329980410259, 27272604164346297801012932728291907305574735, 27172784287986566464492621731154129268918825, 27073077643217601304392357201491383910929463, 27073077643217601304392357201491383910929463, 27073077643217601304392357201491383910929463, 27073077643217601304392357201491383910929463, 27073077643217601304392357201491383910929463, 27073077643217601304392357201491383910929463, 27073077643217601304392357201491383910929463, 27073077643217601304392357201491383910929463, 27073077643217601304392357201491383910929463, 27073077643217601304392357201491383910929463, 27073077643217601304392357201491383910929463, 27073077643217601304392357201491383910929463, 27073077643217601304392357201491383910929463, 27073077643217601304392357201491383910929463, 27073077643217601304392357201491383910929463, 27073077643217601304392357201491383910929463, 27073077643217601304392357201491383910929463, 27073077643217601304392357201491383910929463, 27073077643217601304392357201491383910929463, 27073077643217601304392357201491383910929463, 27073077643217601304392357201491383910929463, 27073077643217601304392357201491383910929463, 27073077643217601304392357201491383910929463, 27073077643217601304392357201491383910929463, 27073077643217601304392357201491383910929463, 27073077643217601304392357201491383910929463, 27073077643217601304392357201491383910929463, 27073077643217601304392357201491383910929463, 27073077643217601304392357201491383910929463, 27073077643217601304392357201491383910929463, 27073077643217601304392357201491383910929463, 27073077643217601304392357201491383910929463, 27073077643217601304392357201491383910929463, 27073077643217601304392357201491383910929463, 27073077643217601304392357201491383910929463, 27073077643217601304392357201491383910929463, 27073077643217601304392357201491383910929463, 27073077643217601304392357201491383910929463, 27073077643217601304392357201491383910929463, 27073077643217601304392357201491383910929463, 27073077643217601304392357201491383910929463, 27073077643217601304392357201491383910929463, 27073077643217601304392357201491383910929463, 27073077643217601304392357201491383910929463, 27073077643217601304392357201491383910929463, 27073077643217601304392357201491383910929463, 27073077643217601304392357201491383910929463, 27073077643217601304392357201491383910929463, 27073077643217601304392357201491383910929463, 27073077643217601304392357201491383910929463, 0]
def tr100 : List Nat := [0, 231391593720209947606780453401757177452422018, 152280292896777986399454275786451934096058079, 134466002380442481397368219040188681167302226, 123713446677399799337247643692180785311247262, 116939350377111729490685556632964175555500106, 112015374636415570523543990724039505773060799, 108425471750287174875835601669149445514396579, 105515579146161672008247211321094706773678173, 103198959383963717256045192278126725287430789, 101232857080301665109845889412527300984464954, 99572554220022960481239326468456114173504958, 98115401315487899217888510108087724769988041, 96845947486335186742368524687319453213373534, 95704365034725397417890028641920944786764274, 94685319185812166544870669787056915614902759, 93754561607618695236634438473568720917161096, 92907562147820106534821769433787820065942571, 92124592172951593856635059291929638746593142, 91402818837426020599664625041959754403889839, 90728223749589695081918840656339050322409028, 90099594064945640616265827973166445903980471, 89507686074429169571823923513699745198327785, 88950851016410512516612596014451235774832187, 88423013596965609675801785001529658788844011, 87922958410087948709326278495306032044051567, 87446151229673391833799686652883706322265904, 86991590296928558094306234940430012246026809, 86556186861588093901315545768491532822440388, 86138875452419588648159650157257292720326516, 85737679445434735006702073913395468938323016, 85351546386812514691302449231193713264683692, 84979081589077951255664419737388214451782316, 84619316869412625674242802113811697162996620, 84271456236024319134508382660998646424172612, 83934412771564389731870726322714605366190322, 83603310668639945644625004726691838428541852, 83279322044917807870475654235192935731016327, 82960084181889132355223467440545606047252772, 82646735324283122486371771075356574849085096, 82337125215075817111381241650413833691797448, 82032322112036695109337620541529270049259978, 81730366757802920026384658669554724070736203, 81432292068897814690485147685856986208616393, 81136229906168000389597045842988030819779599, 80843206986591135457841729681541286994717991, 80551451566285894462194943918854513875763255, 80261952816042073674136122132499165219044399, 79973005487992423299973967219729276891472150, 79685587431717850812294655540248844149750398, 79398026695055863640421504723231287871976988, 79111300823431961207326177615305243356363939, 79111300823431961207326177615305243356363939, 79111300823431961207326177615305243356363939, 79111300823431961207326177615305243356363939, 79111300823431961207326177615305243356363939, 79111300823431961207326177615305243356363939, 79111300823431961207326177615305243356363939, 79111300823431961207326177615305243356363939, 79111300823431961207326177615305243356363939, 79111300823431961207326177615305243356363939, 79111300823431961207326177615305243356363939, 79111300823431961207326177615305243356363939, 79111300823431961207326177615305243356363939, 79111300823431961207326177615305243356363939, 79111300823431961207326177615305243356363939, 79111300823431961207326177615305243356363939, 79111300823431961207326177615305243356363939, 79111300823431961207326177615305243356363939, 79111300823431961207326177615305243356363939, 79111300823431961207326177615305243356363939, 79111300823431961207326177615305243356363939, 79111300823431961207326177615305243356363939, 79111300823431961207326177615305243356363939, 79111300823431961207326177615305243356363939, 79111300823431961207326177615305243356363939, 79111300823431961207326177615305243356363939, 79111300823431961207326177615305243356363939, 79111300823431961207326177615305243356363939, 79111300823431961207326177615305243356363939, 79111300823431961207326177615305243356363939, 79111300823431961207326177615305243356363939, 79111300823431961207326177615305243356363939, 79111300823431961207326177615305243356363939, 79111300823431961207326177615305243356363939, 79111300823431961207326177615305243356363939, 79111300823431961207326177615305243356363939, 79111300823431961207326177615305243356363939, 79111300823431961207326177615305243356363939, 79111300823431961207326177615305243356363939, 79111300823431961207326177615305243356363939, 79111300823431961207326177615305243356363939, 79111300823431961207326177615305243356363939, 79111300823431961207326177615305243356363939, 79111300823431961207326177615305243356363939, 79111300823431961207326177615305243356363939, 79111300823431961207326177615305243356363939, 79111300823431961207326177615305243356363939, 79111300823431961207326177615305243356363939, 79111300823431961207326177615305243356363939, 79111300823431961207326177615305243356363939, 0]
def tb : List (List Nat) := [tr0, tr1, tr2, tr3, tr4, tr5, tr6, tr7, tr8, tr9, tr10, tr11, tr12, tr13, tr14, tr15, tr16, tr17, tr18, tr19, tr20, tr21, tr22, tr23, tr24, tr25, tr26, tr27, tr28, tr29, tr30, tr31, tr32, tr33, tr34, tr35, tr36, tr37, tr38, tr39, tr40, tr41, tr42, tr43, tr44, tr45, tr46, tr47, tr48, tr49, tr50, tr51, tr52, tr53, tr54, tr55, tr56, tr57, tr58, tr59, tr60, tr61, tr62, tr63, tr64, tr65, tr66, tr67, tr68, tr69, tr70, tr71, tr72, tr73, tr74, tr75, tr76, tr77, tr78, tr79, tr80, tr81, tr82, tr83, tr84, tr85, tr86, tr87, tr88, tr89, tr90, tr91, tr92, tr93, tr94, tr95, tr96, tr97, tr98, tr99, tr100]
def pr0 : List Nat := [1, 0, 0, 0, 0, 0, 0, 0, 0, 0, 0, 0, 0, 0, 0, 0, 0, 0, 0, 0, 0, 0, 0, 0, 0, 0, 0, 0, 0, 0, 0, 0, 0, 0, 0, 0, 0, 0, 0, 0, 0, 0, 0, 0, 0, 0, 0, 0, 0, 0, 0, 0, 0, 0, 0, 0, 0, 0, 0, 0, 0, 0, 0, 0, 0, 0, 0, 0, 0, 0, 0, 0, 0, 0, 0, 0, 0, 0, 0, 0, 0, 0, 0, 0, 0, 0, 0, 0, 0, 0, 0, 0, 0, 0, 0, 0, 0, 0, 0, 0, 0]
def pr1 : List Nat := [1, 1, 1, 1, 1, 1, 1, 1, 1, 1, 1, 1, 1, 1, 1, 1, 1, 1, 1, 1, 1, 1, 1, 1, 1, 1, 1, 1, 1, 1, 1, 1, 1, 1, 1, 1, 1, 1, 1, 1, 1, 1, 1, 1, 1, 1, 1, 1, 1, 1, 1, 1, 1, 1, 1, 1, 1, 1, 1, 1, 1, 1, 1, 1, 1, 1, 1, 1, 1, 1, 1, 1, 1, 1, 1, 1, 1, 1, 1, 1, 1, 1, 1, 1, 1, 1, 1, 1, 1, 1, 1, 1, 1, 1, 1, 1, 1, 1, 1, 1, 1]
def pr2 : List Nat := [1, 1, 2, 2, 3, 3, 4, 4, 5, 5, 6, 6, 7, 7, 8, 8, 9, 9, 10, 10, 11, 11, 12, 12, 13, 13, 14, 14, 15, 15, 16, 16, 17, 17, 18, 18, 19, 19, 20, 20, 21, 21, 22, 22, 23, 23, 24, 24, 25, 25, 26, 26, 27, 27, 28, 28, 29, 29, 30, 30, 31, 31, 32, 32, 33, 33, 34, 34, 35, 35, 36, 36, 37, 37, 38, 38, 39, 39, 40, 40, 41, 41, 42, 42, 43, 43, 44, 44, 45, 45, 46, 46, 47, 47, 48, 48, 49, 49, 50, 50, 51]
def pr3 : List Nat := [1, 1, 2, 4, 5, 7, 12, 14, 19, 29, 34, 44, 65, 75, 96, 138, 159, 201, 286, 328, 413, 583, 668, 838, 1179, 1349, 1690, 2372, 2713, 3395, 4760, 5442, 6807, 9537, 10902, 13632, 19093, 21823, 27284, 38206, 43667, 54589, 76434, 87356, 109201, 152891, 174736, 218426, 305807, 349497, 436878, 611640, 699021, 873783, 1223308, 1398070, 1747595, 2446645, 2796170, 3495220, 4893321, 5592371, 6990472, 9786674, 11184775, 13980977, 19573382, 22369584, 27961989, 39146799, 44739204, 55924014, 78293635, 89478445, 111848066, 156587308, 178956929, 223696171, 313174656, 357913898, 447392383, 626349353, 715827838, 894784808, 1252698749, 1431655719, 1789569660, 2505397542, 2863311483, 3579139365, 5010795130, 5726623012, 7158278777, 10021590307, 11453246072, 14316557602, 20043180663, 22906492193, 28633115254, 40086361376, 45812984437]
def pr4 : List Nat := [1, 1, 2, 4, 9, 11, 20, 30, 55, 73, 114, 164, 285, 367, 552, 794, 1299, 1669, 2494, 3504, 5609, 7259, 10644, 14854, 23615, 30385, 44266, 61788, 97173, 124935, 181824, 252594, 395499, 509277, 738198, 1024008, 1601089, 2058931, 2980076, 4134238, 6448023, 8290313, 11996738, 16624308, 25901293, 33314143, 48161688, 66715658, 103910979, 133606069, 193083630, 267474272, 416342937, 535298059, 773557828, 1071295158, 1667119343, 2143638881, 3097027482, 4288675852, 6673370693, 8580147895, 12395100400, 17164490082, 26704667547, 34334572557, 49599974982, 68680329912, 106846632177, 137377437027, 198444639132, 274777243662, 427464822343, 549599226553, 793890404594, 1099265561956, 1710038246301, 2198620602383, 3175874793032, 4397420161722, 6840600377587, 8795108758885, 12704214999966, 17590575431696, 27363654209097, 35181866691259, 50818649569524, 70364807124326, 109457480147871, 140731045904401, 203279609073226, 281464955120316, 437837078870261, 562934205207911, 813129889538976, 1125874137038866, 1751368358661707, 2251759727323837, 3252548191271158, 4503536634516840, 7005519247631265]
def pr5 : List Nat := [1, 1, 2, 4, 9, 20, 29, 48, 91, 154, 294, 425, 717, 1186, 1938, 3440, 5124, 8122, 13168, 20946, 36569, 53375, 83742, 133366, 212129, 359506, 524641, 815466, 1297467, 2034096, 3417378, 4974363, 7734693, 12186480, 19045062, 31780410, 46370356, 71671168, 112658396, 175539796, 292471713, 425623517, 657037250, 1030549872, 1605759457, 2665559560, 3878773341, 5980050908, 9378859827, 14585441182, 24183119670, 35176434341, 54236801109, 84945036502, 132042528466, 218719372188, 318255028412, 490274848862, 767602356000, 1192671432046, 1975147720385, 2872875403603, 4424868740158, 6925585694082, 10760747555961, 17810664056022, 25905478607409, 39892498991334, 62437117878915, 96984105440676, 160494421143330, 233424084710343, 359459955744349, 562483660136788, 873650839370678, 1445549055851926, 2102526800639388, 3237338222301524, 5065528816024124, 7867254974497824, 13016782103044921, 18931536314513377, 29148748215713682, 45607349919648812, 70832658424689513, 117186220794095548, 170434645480189917, 262409098748547464, 410575606756987179, 637634656868110018, 1054879266755933158, 1534193274276829569, 2362119725815797437, 3695743395018092522, 5739525041702529138, 9495039274940437288, 13809490836850127828, 21261329292069500770, 33264943103354103856, 51660228911957279082, 85462358993711566857]
def pr6 : List Nat := [1, 1, 2, 4, 9, 20, 49, 68, 131, 234, 474, 825, 1697, 2546, 4558, 8120, 14604, 24622, 47108, 71866, 127729, 215775, 375822, 625806, 1154289, 1796826, 3079221, 5130966, 8813907, 14550216, 26503158, 40910883, 69319113, 114805800, 195323202, 322784730, 576433516, 889888828, 1499040656, 2471655796, 4198935753, 6881318117, 12185707570, 18828326432, 31586572577, 52098675480, 87857488401, 143606413248, 253093011227, 391151969822, 655914571210, 1077149943941, 1811386569129, 2957073301462, 5193902753006, 8041758768628, 13436546452612, 22033273727682, 36995333738580, 60334137461286, 105853202780505, 163708050776163, 273155797792398, 447591060247722, 750667422327561, 1224493413281742, 2142969534217509, 3314053514514594, 5525553073726875, 9048805310395116, 15173842867694550, 24723292350345183, 43218850640094529, 66843553950428668, 111384712313908178, 182421655263754246, 305579384154530388, 497703185229205184, 869442541617914704, 1344738333983071184, 2240711028381208481, 3667364641589598297, 6140736431306321442, 9999671054503752492, 17459683490782983593, 27011952900455519228, 44984655213104359537, 73609701930540513404, 123225304232883416019, 200631055746943159858, 350248549082415605018, 541773251283387214129, 902055223987902988177, 1475889782005828360602, 2470245609699370849518, 4022116154213803634448, 7018780472485162228188, 10856726354959813783350, 18074369422861413867396, 29569455869028524491122, 49490374552981128557217]
def pr7 : List Nat := [1, 1, 2, 4, 9, 20, 49, 117, 180, 332, 670, 1266, 2677, 4947, 10291, 16940, 30872, 57452, 109142, 203039, 370132, 720034, 1205882, 2138534, 3969437, 7144784, 13028132, 23267434, 44095573, 73638434, 131291324, 235413296, 419413529, 753184268, 1335427468, 2483467807, 4184716782, 7323163704, 13034292160, 23022918717, 41104964885, 72317264049, 133875630113, 223879448750, 390421594073, 690778991320, 1215980505534, 2157749692613, 3796638949628, 6951057845359, 11626007559960, 20207808053518, 35659557143809, 62540118072628, 110923637691043, 194077067300400, 354038380875203, 591707644165722, 1027177928360962, 1807652437507927, 3170318988339277, 5598966297637270, 9782932095511998, 17795471723132669, 29744341986447939, 51556211902968880, 90717938972105932, 158659683943139167, 279874901657953105, 488412477990483018, 887151957301195331, 1482196049686294194, 2569473233885569649, 4512022563583619336, 7885709225527727361, 13896291836503456391, 24237790805688198270, 43968149092987776403, 73497048976246330210, 127248926794375983985, 223329816643978555945, 390067116692448238986, 687059036419975684601, 1197651420533225467722, 2171898989047184027340, 3628367352736525699518, 6280182068137527574802, 11016770717485489754709, 19236514022162847126333, 33866523840325751705307, 59035168155210463523396, 106964823714595404553789, 178692055508077662264559, 309204811120744679525900, 542292010766488368830259, 946611303240193312824765, 1666478448648446995788231, 2903579965960272526429754, 5259350731438036237003057, 8785480175764833975454513, 15200526119469470425326317]
def pr8 : List Nat := [1, 1, 2, 4, 9, 20, 49, 117, 297, 449, 904, 1734, 3730, 7287, 16024, 30629, 65621, 109985, 214910, 405917, 806542, 1572613, 3080690, 5722127, 11647094, 20013029, 38172602, 70759723, 138460987, 257634155, 491732054, 904902155, 1782123527, 3094708661, 5801621902, 10762355398, 20384652261, 37466359839, 70566942478, 128896470852, 249613417544, 434398177386, 812665392647, 1483075030316, 2775425908610, 5074343092483, 9472312775460, 17238636782297, 33001408802276, 57775644599521, 106707858499659, 193727586600490, 360384388451179, 656238259893139, 1219184232419863, 2210997570829149, 4215203210741495, 7351458062309679, 13511997372821065, 24473780069765257, 45335292437127220, 82378842705134533, 152427487288635969, 276482187510143102, 522923117643202854, 911676805193201323, 1671621631592170537, 3022091952105674236, 5584104116801837845, 10126737074491223379, 18721167970071603704, 33830611988373037128, 63751477998140303567, 111178208771188174127, 203465440121811680190, 367481050232867342003, 677577972471503226135, 1228796386808460911746, 2263873701474623963578, 4085430529434021327961, 7682252742426394073284, 13397917542921464611845, 24492515530671942266831, 44192934297778704482073, 81448521768213061485135, 147397544609326452373800, 271153405140668531313428, 489012142661265985126146, 918060084886050953700561, 1601422876362137111291172, 2924659485243827708742623, 5277538136554703828956330, 9708169102389005856025354, 17554717530411939607260500, 32267240412224706532501335, 58161031994608313572583847, 109079508380316408578753868, 190270056500330314547496878, 347444510504965878159889948, 626257442152665181963345123, 1151056311098983155580292735]
def pr9 : List Nat := [1, 1, 2, 4, 9, 20, 49, 117, 297, 746, 1201, 2328, 4918, 9960, 21964, 45182, 100370, 198194, 436472, 762614, 1497958, 3033259, 6038810, 12245435, 25066148, 49822919, 97036220, 200391907, 364957345, 702527681, 1392609977, 2698428725, 5419017722, 10539354617, 20599028845, 39582112738, 79901048640, 145858691304, 279217663735, 542501634021, 1051046748869, 2043846440820, 3942853713896, 7600986597281, 14531313391796, 28804954538563, 52792344092748, 100166282911592, 194124394106513, 369936529013614, 713730251423199, 1364755139627602, 2617877407843636, 4972038337256551, 9774255730373074, 17890323766375305, 33964589235484319, 65006403111944040, 123383146489864423, 236451664742455360, 450667568906525014, 859888432834694425, 1629122873453831616, 3179436139430946080, 5836349276256668439, 10999159808132044066, 20978523355839550417, 39666886459595407867, 75810248545311079765, 143975005039729152537, 274108032521975847929, 517680105404161027080, 1008044011409131289327, 1844573943819418700510, 3470215903137028767792, 6598102486917213815852, 12458643250971339362634, 23744440204765851601951, 45024450198274182267067, 85495516188460848162874, 161433244047462219116044, 312786988931433457541964, 572330976845039296318301, 1074847057529476248516297, 2041084960382625564793179, 3847614590147814243076098, 7323252145956126457092875, 13861273851548698118445045, 26310228392858922858074139, 49547096358458416188756240, 95822395197879564598705931, 175259838259531374835491727, 328937745188643451665365563, 623756950764051732350834663, 1175008773686125536726102441, 2233166919343577871329167722, 4225877842290279749756932233, 8004407889179430403395516161, 15062932128967115486220493228, 29085508815922895867779006630, 53203228274179801481721335654]
def pr10 : List Nat := [1, 1, 2, 4, 9, 20, 49, 117, 297, 746, 1947, 3074, 6410, 12944, 28678, 60102, 136924, 285476, 658034, 1319130, 2950420, 5326463, 10820670, 21901659, 46459936, 94659011, 199181524, 413357003, 855850709, 1686598661, 3593623297, 6671970123, 13491237542, 26877992231, 55258141101, 110197734944, 228490465544, 454223015542, 917682292649, 1800704235127, 3731889728431, 7021136152578, 14007316920228, 27651968801607, 55753886653142, 111012464806787, 223246231388572, 439016652505924, 878715384422667, 1713261888418356, 3497719988832725, 6602522709450790, 13067335830333724, 25600407063255373, 51366655173617006, 100705622512238407, 200506277851359031, 392512825881363344, 778904823269174005, 1514545033502548936, 3059966680575737864, 5785370374084983765, 11377355402882789720, 22277339808619454338, 44155874035774954915, 86125554202261895688, 170556206632953387543, 332481454567092462491, 656873246704114887495, 1273825600032630658793, 2556843176231476294473, 4833566404471558915770, 9495551141959692420447, 18463469441049531636658, 36410497933825145134382, 70847765921804587999100, 139693573399154566469712, 271775605311816828620237, 535051892239543888338337, 1035769413812803319622452, 2068838253516143534792902, 3918627526667216408706384, 7656012128746969841971763, 14848595260552426849463165, 29203316419016183835042151, 56700047967814036890404698, 111534657901725433043498027, 216605875414164052269141847, 425458940003558663558473541, 822231079062809692627105432, 1639175732320922641554210823, 3098555973153274815730454191, 6040322793233882953776300761, 11700809015136162162050355753, 22960682822272198677667547087, 44531402703332849391571072430, 87430732636977452800206460375, 169592390948145813396175334023, 332455301371621878500841754814, 642469893796778926567599658902, 1276028324585588092081162609612]
def pr11 : List Nat := [1, 1, 2, 4, 9, 20, 49, 117, 297, 746, 1947, 5021, 8357, 16838, 36466, 77625, 175864, 380879, 885833, 1897389, 4402882, 9117272, 20596557, 38172738, 79243522, 165658313, 350317399, 755764211, 1597422122, 3411315512, 7287839680, 15244381377, 31242566126, 66979488710, 129580461987, 264484872278, 551027200955, 1136290991395, 2389155211466, 4910885106661, 10373721030295, 21210560009538, 43688127461247, 88481245048929, 186162951171512, 363305624295476, 738198277713838, 1511866612765309, 3091073944668732, 6364947085142658, 13059213291501692, 26800157555435155, 54364296168904210, 110661191230303282, 223639639283881769, 463164888443172271, 907862328354650803, 1829784872590205930, 3722509118323230628, 7532866003772570140, 15452518655348492990, 31211658652638778089, 63557262163315036505, 128124624449475951208, 259613213361175444969, 521551931887979699931, 1072338244431809799180, 2100089407873597575932, 4219464393637245833205, 8521550853407960691509, 17223333285576670357053, 34919620226435074767300, 70264650538647393359730, 142209458873023907711893, 285869141736954822136358, 576314692336013179353743, 1155155184785051042235369, 2359618167220550507623697, 4623925969369438368677941, 9251066588224520956872587, 18660297765101443001160925, 37452457433684993593888575, 75644512709616060413904863, 151653869859298901720857475, 306085132844793732150097822, 613287266929665075589893724, 1233619363879943093245235648, 2465693020190658431501405290, 5019635511581970501901811600, 9825014941425106196443056559, 19651002379594064944585137712, 39430155721805784338990775166, 78960257416618565481077356286, 158980675260758631787923124014, 318230767438327160328177050912, 640479156352146245887811531864, 1281501041349035354973729541003, 2571449292422395015944649140679, 5133159611682833844634077854444, 10415700234846875493770426844102, 20405332415540269856555793729985]
def pr12 : List Nat := [1, 1, 2, 4, 9, 20, 49, 117, 297, 746, 1947, 5021, 13378, 21859, 46508, 97709, 221053, 481299, 1131862, 2484846, 5894119, 12862938, 30372444, 63383179, 146414460, 275412352, 583834067, 1246361100, 2707329235, 5827917791, 12970918782, 27720793143, 60836937625, 131564300408, 282080503311, 582731814037, 1286174204615, 2519136410787, 5320586061873, 11168864189761, 23967221119230, 50472535238149, 108815110665669, 227667347419932, 491625214986637, 1023889976644044, 2154524484838369, 4437763051045086, 9548954626040647, 19013531003704185, 39773875908166025, 82879024652225136, 174703713408558040, 364083790661049411, 770000309936205818, 1606282639838650843, 3376312532802555180, 6970736445319950854, 14540376556696681377, 29814874283069946946, 63397819832698581577, 126678597822237490974, 263261893098216648030, 544260207228298359064, 1136800558385545363809, 2349616644797108792562, 4938509800621499211358, 10165234542503463458635, 21171929620838875391985, 43521618545359433929443, 90230563976750707550970, 184620104001729278383166, 388585103918626971457847, 778262698538478349892347, 1607707106983100611894988, 3309045192829299240214087, 6863030788438874313920358, 14157043340746833755077499, 29420183678289985908906459, 60290709226134410982678922, 124964556391333436344317610, 255974504149934711353621878, 528692174436881363027325233, 1078631412051981608482733961, 2257170939620219755839947609, 4520944276291364870399368011, 9305916748042091265569970396, 19080408933386569916616336117, 39478913100333558432095929118, 80907529555314958480687179038, 167369744628288084193204468351, 342149806746226661883021642528, 706407295057503749365896076096, 1444228660597580817494458573452, 2972794175285908484088377045805, 6056287476265145902079618750045, 12614756329182158749046106485792, 25271110503681338030219875923910, 51858167603602174089060899212760, 106218433489380843045101050487559, 218628955092315066744109453831463]
def pr13 : List Nat := [1, 1, 2, 4, 9, 20, 49, 117, 297, 746, 1947, 5021, 13378, 35237, 59886, 124465, 274565, 601701, 1399422, 3140368, 7459345, 16836204, 40352432, 89430145, 213585398, 454383236, 1055234653, 2047516008, 4372422005, 9501048361, 21020474760, 46442260659, 102848780729, 231355417818, 507315240423, 1122566649333, 2482570684425, 5376481865231, 11399324993081, 25285793377595, 51358890274254, 108966796821039, 235920135639127, 508879258759212, 1112929778082739, 2399800965236606, 5249597264407573, 11224626337423980, 24566651260817521, 52225361619941835, 111700450301226343, 235379194409662754, 512977057214023950, 1051163024750019423, 2227758117808065560, 4762422214418891849, 10184099256483293316, 21859511016510833196, 46644913869631996445, 100043986486314458540, 213560870974756586017, 455331258389454286912, 961932780849798516660, 2038588831358104375718, 4285703421198013686821, 9212223716206321195662, 19000968745727259052252, 39968182642539764520315, 84883614005334810547907, 179764498398592931910891, 382667102355632634047058, 808635761749666126824376, 1726973555132541797805967, 3635280030438771957627773, 7699128681717220062203724, 16177781935037903796091567, 34135272174347594652275762, 71491183709533860857368837, 152661312553698150864472695, 314485669106473682583706178, 659658903783230406097091680, 1391547492313303806863521724, 2933581634013257606131225031, 6197951907365634986764275885, 13075100160307253200496449737, 27624396496854509041447594537, 57938692995251982514714317590, 122079352437399539908777755789, 255905279827270635416208912444, 537569200703737079738832323074, 1123778800294432074743084769737, 2384452846089600524147937356238, 4913596576363908674970717325380, 10269145475409637190261351068492, 21588916527453286812308570669477, 45301742576094506156903147214763, 95530956945919623601978589275322, 200189800448271771346461380505496, 421417343938521796045546818928746, 881322268379861865126949191206579, 1851806531999846111643738270776705]
def pr14 : List Nat := [1, 1, 2, 4, 9, 20, 49, 117, 297, 746, 1947, 5021, 13378, 35237, 95123, 159702, 345039, 742649, 1716555, 3845108, 9185958, 20958933, 50817821, 115716947, 282191837, 631308213, 1526635239, 3289162177, 7724271156, 15128467735, 33178614003, 72610983472, 163335029264, 366845488414, 831000842469, 1861096571454, 4273238243002, 9453999926670, 21342918753450, 47531200879076, 105152936190897, 224867004451988, 508100278363099, 1041961076337407, 2282044599706450, 4958394189839470, 11005033690583141, 24151160812668098, 53848627946897674, 117804821508266433, 262276546269887817, 568509789825733544, 1265037485329341600, 2726019950126020435, 5933032130366703149, 12686060850293593005, 28088028765163812779, 58575093463412043655, 127057319429488175095, 274762922553687862930, 601345243129834725434, 1306345711945440056138, 2859396883814631855398, 6189677326844888675339, 13527542082110050694450, 29244803180295694085590, 63577094616277269011452, 136024947625130346588410, 293945867183066329409220, 626783224580388268628076, 1372404971953709904940681, 2872646330119916309095611, 6204092319869416623628482, 13317101132463071183692183, 28888731013883206282321582, 62209485786859375054226273, 134891840169323777340935088, 289596843675567203110289180, 629331312901010007184807345, 1344984798770553055077641008, 2899924986776992534253625804, 6184658571780021829599324894, 13291352155942965855523910171, 28283912391904776408411789897, 61434534157040129120891226134, 128847835231290000025049639344, 276552294070490616081511137824, 591334045042000779208539208160, 1273857494563473175186374497378, 2729644851375300878524603504775, 5876962572340894016905614465593, 12588976826685562060145197191898, 27089344049056798298141773741145, 57662374829687615192032187267388, 123773573286514172741803583125025, 263230556669907135366494558504641, 563878332864881911453074611970849, 1196830021401820377649667621106085, 2586186024030144825878390954212504, 5421533438424827596009623332771107, 11596679718161723950507946234280993]
def pr15 : List Nat := [1, 1, 2, 4, 9, 20, 49, 117, 297, 746, 1947, 5021, 13378, 35237, 95123, 254825, 440162, 932895, 2097047, 4701215, 11088418, 25619960, 61947212, 143968478, 353153595, 816512694, 2004247822, 4561717671, 11076120307, 24176852864, 57418332478, 114480513398, 252074800349, 566322890195, 1278194516914, 2915860156868, 6710285698082, 15346604573746, 35037632286244, 81124230296261, 182822073182259, 415517070024094, 942024548381632, 2095554868300168, 4581819374688722, 10420198230144264, 21894763566541095, 48129272046266025, 107718960230916659, 239390518540676855, 539641911971642581, 1206812296284387630, 2724852552197782358, 6058904646090408447, 13649812288837938252, 30076644917609615862, 67613259017065706341, 148183294579118024391, 326392785166805055759, 710599326932203165736, 1592545759375847549906, 3389041306685528635823, 7437597628671594951473, 16436227980890374029396, 36299086377254855172615, 80577160772774251318053, 178372700675737073539942, 395221096947839997828444, 870287053833124252113201, 1925194318931519468973072, 4233385666451489394581707, 9304222367600257493370554, 20299731850118860457773575, 44364562035885068502655540, 96483070789655168016627110, 213697216055968121543934711, 457267616385171317766326317, 997083442907695329679255359, 2192794627127245055983043053, 4797862792234166643662297653, 10564666250965597642380781323, 23152004978158159475939227760, 50885968560912349968958988783, 111068227813673054642175808620, 244564793356763055568016753990, 531540179981155025705845354305, 1161597838343729909623398345966, 2522305437820857142533334982885, 5493947729102968546364477428798, 11907403994099669425770224089305, 26204482855232749642529315980046, 56085644300092213320031455443889, 121934912388765501143221581255302, 266247578145912546652307191597907, 580160675672204806386892322771344, 1268173304460507679902681620292370, 2766166502402220515282841774185329, 6037256008821485843746953511111394, 13151329058350166802606080397572764, 28685270276900199730806081022561877, 62158376258509133460725073871835508]
def pr16 : List Nat := [1, 1, 2, 4, 9, 20, 49, 117, 297, 746, 1947, 5021, 13378, 35237, 95123, 254825, 694987, 1187720, 2606697, 5720515, 13381843, 30716460, 74433637, 173783003, 428836620, 1006612144, 2500392097, 5841193996, 14485169157, 33156121389, 81658050953, 179416294023, 429174862624, 868983639195, 1942446079939, 4373590391743, 10120313840557, 23173926493246, 54005183834769, 125408484035736, 292100364873759, 672027009618894, 1579186964499657, 3584037128330868, 8273002605121247, 18869206863096189, 42703276400639320, 93849029170677000, 217083444599077459, 460829274398542730, 1034625734292098256, 2321312467860297605, 5303761526617719883, 11964200464731820397, 27411683259532948677, 62033861862016042062, 142047734496021343516, 319432577305252687941, 728809103395430150784, 1623901588159116603836, 3700713648225869316681, 8197386945574014997748, 18319460037464509670473, 40351306839308140554396, 91617375147214768662290, 198007980621382902490303, 442021203416721011625142, 986749546570340335022569, 2221818084853484721298676, 4973971702356805601638597, 11218567853061973041198232, 25112001216588495411819704, 56497045793067499319238275, 125763968547696084707220865, 282201850562395656190159910, 627507938258615010116443411, 1400301971794328466389562142, 3085982571313593701480389459, 6861051031174138732761325278, 15080384557560863560436258353, 33911063872854601066748830573, 73609388640002057603030689735, 163524021721578281756335798933, 362516681018460030514301954045, 810739586829552299672951865690, 1799032519034228013143400834830, 4020369391500247189846737815366, 8921471147838020485850291054685, 19890807423321394060389370855673, 43955207279266324211287781012930, 98116569424795222731186815045796, 215990354666843783272954147651964, 478766862351255252590941754090452, 1052633086880899061632047435487582, 2328528004691154708962797036737694, 5111032299340954736690851155095595, 11407553353802394232117112524950054, 24794768469010010172439249022832769, 54821337893551352451164350360674489, 121063583517429277006613076462079002, 268755091472349798224885033046289758]
def pr17 : List Nat := [1, 1, 2, 4, 9, 20, 49, 117, 297, 746, 1947, 5021, 13378, 35237, 95123, 254825, 694987, 1882707, 3301684, 7110489, 16161791, 36971343, 88333377, 207837366, 510150099, 1213023283, 3018852399, 7194333685, 17974698884, 42453657475, 106147307872, 245525542424, 606274924899, 1351990569364, 3250902969748, 6668217849851, 15062011259200, 34406161134963, 79699786592310, 186799032716835, 436544632358001, 1026574696472607, 2422222376881978, 5682100300554681, 13272970989858342, 31361388916390697, 72208016448217145, 167620028226714664, 387720504751705947, 882182465629324043, 1974241604122676524, 4580647770096550881, 9938086245432116820, 22432102483729450797, 51323517968237479158, 117424177446445792032, 271870633846796349661, 622825421713842728928, 1442265171972837871893, 3307314651201191848122, 7649699489807465400828, 17421929234902694529302, 40115217636300131006412, 90534939566605229506511, 208111115704414512851658, 467468691057256763477992, 1055126548657048040297583, 2358821796294746924407757, 5405308736649576328432223, 11880812447810936174019937, 26808587461921652862252871, 60781178998779956339400650, 138105322604040520986181859, 314710524752979539369070272, 715057421923034072839643846, 1629863483332501684189743802, 3698842659288691185340326556, 8402424270636414658005638695, 18969065364351457695597334352, 42959939316960182708189514997, 96831669917430869705790390930, 218243908610065986646265928181, 488408684913387988035615025037, 1095815915689975876896598270466, 2450090070571049580426325679849, 5555651821992107116911526200931, 12277379592167026288620331771185, 27553090922236564243628827112362, 62132936672146479576840410397223, 139936611119880633769911352653763, 316836292891294213858678856172260, 712945967156867464453559705251966, 1611500795042060600580919229811026, 3623280650131968682458164967662354, 8168103641267944622886161856459659, 18294286129715481266180955764389019, 41264152699878600731933618984170093, 92091520249915538016657395444100679, 206498017206735282312492768989403136, 460501270219330054647521055867468521, 1030332907269979062981621175242643700]
def pr18 : List Nat := [1, 1, 2, 4, 9, 20, 49, 117, 297, 746, 1947, 5021, 13378, 35237, 95123, 254825, 694987, 1882707, 5184391, 8993196, 19927205, 44502171, 105277740, 245491506, 602402742, 1433300002, 3578016378, 8598833107, 21640329413, 51906729322, 131334162118, 311866488983, 785363662860, 1831751380639, 4559359859557, 10212803497700, 24822700485637, 51337714196535, 117216874936245, 270583581573732, 634751770400181, 1488763273259349, 3556370236064572, 8380584247420095, 20009327470833588, 47550472198771346, 112950416116378136, 265345190868349318, 634984251110399373, 1469335687503041024, 3452851269734838544, 8029298916685260654, 18522024968539097619, 41659819118473724697, 98057389931449658517, 214078051328261612277, 492555664807389364876, 1132255024827778981452, 2637316773367651441860, 6110219687109481025865, 14345302627837887557232, 33200113861610239326467, 77786918530930822969128, 180058546428537434020133, 420763654779632444145810, 967035939321434102921818, 2250615843112354712640294, 5125150380506534781579725, 11906015992138244999090831, 26997629723346693204130315, 61680133524364991723227504, 139214412071864267142515429, 322718657029710313223747378, 717756770535056974634264111, 1642395419945559681817243178, 3761567944360934967022294366, 8664137409725382128490241576, 19906177647095244351768855250, 45977067038900243464810921376, 105466026085010811559804221166, 243281645944044046625528460426, 557241394380898413438008468212, 1280583363112585448056040532707, 2916461247902015112506225471792, 6687340272709581584397195675707, 15204808319424423695935145516506, 34692919242677645116123632930702, 78381717385789446965897400075067, 178258555819403120049102894770551, 402036559228463992568995148440066, 924420967511729028537220610964506, 2064271663340612975996311186880443, 4703650148941505432456015681733872, 10705210949955911471415807726591116, 24480135791519789633869639103285891, 55771786129145227473966641925550769, 127825498653485361404837394335214925, 290653145822347988015981721262877041, 664526074997108617202701580132656318, 1509623544110008163916153665029478405, 3441296169085585474134865078453841549]
def pr19 : List Nat := [1, 1, 2, 4, 9, 20, 49, 117, 297, 746, 1947, 5021, 13378, 35237, 95123, 254825, 694987, 1882707, 5184391, 14177587, 25111596, 54870953, 126015304, 292151025, 706090562, 1687335161, 4184590125, 10138597234, 25507885099, 62000738599, 157364989329, 381223271781, 968046048527, 2324906205732, 5880472296132, 13815887845617, 34583389712074, 78215624237416, 190719029380762, 400771913871768, 919224245294804, 2142075881179213, 5070995380715347, 12041233802237837, 28757132693505539, 69245023581510221, 165512868368952630, 397588040804639027, 956420322296407582, 2285177321895404663, 5429261768946808915, 13048028138254202711, 30575247777380226831, 72146486766289800309, 169684354535275822764, 393371865701030649211, 898056043163230738532, 2121017044278137067394, 4715075076697220615148, 10875837591397655230229, 25450661547540468821515, 59490136674432457875144, 140213382684148444971395, 329146766350553308861882, 779756931830401800306221, 1825119364477616797320148, 4311867703567558042467851, 10083607291637129582032287, 23753268733176883875306064, 55145045574918608821776080, 129326213172076835970311505, 297728451471684318703110350, 696754253702482257337524197, 1597466811028550132689540835, 3681788980139191670310908679, 8417441612031999938790948378, 19660319084927557437454088630, 44350970439048624633956610118, 102361661565203924661513076915, 237412206756125690253847193531, 551701775107741611341304137730, 1284162393648153454211703963657, 2987008896259496867539801816569, 6959026067471163732397594868203, 16149472679833057809872595085575, 37559216434990739503283090030247, 86970282132975554987045583362919, 201527950026653085137079280522091, 464152033792600981357239407937831, 1072514214861860592281954382158521, 2467961671765465965262757581511356, 5676518145447478668596655596089470, 12985542706836621483420476980840357, 29793044602488715514250649883820605, 68119444327963981828537982755653689, 157698567450171891904686681932125099, 357758270638955099519500338221483063, 821336022786037128195808163603310806, 1895363782993705840623534685650030939, 4369861261662607804079508764939650835, 10098896125253529408768935202301519436]
def pr20 : List Nat := [1, 1, 2, 4, 9, 20, 49, 117, 297, 746, 1947, 5021, 13378, 35237, 95123, 254825, 694987, 1882707, 5184391, 14177587, 39289183, 69048540, 154370478, 348861373, 833688845, 1970886901, 4879291888, 11797374913, 29718628438, 72577218501, 184968751218, 452408936108, 1157713807413, 2824481838851, 7229086904333, 17428691452892, 44436628368443, 104907866525425, 264221183825279, 601775887014337, 1476250055436225, 3121017564252193, 7259596262791933, 16987246268884788, 40576828824422554, 97187444087598108, 234689453609466886, 564846350005313958, 1377758762496826688, 3314147151411341750, 8051672331621359881, 19462095189502814107, 46988836003079279262, 112190823766519832846, 272175363052017607235, 640468655070563380815, 1528060207843499425573, 3608357448926737716869, 8461093897623106436921, 19407567584045588295048, 46380325142242371710590, 103738634720146014073435, 243136940284755937977066, 569984928218092783708438, 1355038452672760284403419, 3203002808337174594525544, 7639197850098238842351933, 18091765560469918683891633, 43286563453487981468347920, 102131655144855079269133330, 243479498149131516741498652, 573653999223141952449930159, 1362942564164871006971824991, 3188061975580052750089163437, 7540578869065756822416950624, 17497741690067903409309741783, 41324525622866852927965320981, 95508772098305505241048225221, 222319556413924609381220566542, 512564684637311830273071882707, 1209262869900170211354532684060, 2754925912654244221441053065002, 6434104020060428951976259036311, 15040036975971929147496157247309, 35360648230946499272146811055528, 82970067411435357651358713812575, 195275674262956294721269398088590, 458025530243819118160878405951662, 1077851053085447292079129790006871, 2520494641132041081011988582833231, 5919913439491117018307311230624080, 13809547627331506112805403569235803, 32308779486287162528541132339517074, 74992070622666788843229022269107124, 175026657274505357899197850502117977, 405774322564636628397772156008142720, 943640327890879096321933409412535910, 2175419948472935981329725347869632533, 5047318635853530001566805433988525093, 11636791671235659723905219139271938844, 27243325669132873895056210174905682656]
def pr21 : List Nat := [1, 1, 2, 4, 9, 20, 49, 117, 297, 746, 1947, 5021, 13378, 35237, 95123, 254825, 694987, 1882707, 5184391, 14177587, 39289183, 108337723, 193659661, 427439739, 990845577, 2324489548, 5665075548, 13722544880, 34315462849, 84246105852, 214278481736, 528904975409, 1354984795256, 3350092529025, 8613519845704, 21165996407401, 54448494426418, 132213337951046, 338191203683660, 805466373756890, 2033275865577646, 4664657465059682, 11516096887542242, 24595976129631751, 57370586951465791, 136116957287091699, 326016748842426170, 787422539919511242, 1916906339512859728, 4662373651015404117, 11361633001477958797, 27880921671390675795, 67769080371533980109, 165427069349550348694, 403797761491813643810, 978886812562559600647, 2359654914071219868956, 5747594310520754553363, 13655647927422597772339, 32694823674563180144828, 78026440901123220431460, 183624382292309548476653, 426407521061801889996872, 1022442966278470349876724, 2321394259893493872052852, 5457046297890726175364297, 12987121894353968142143850, 30900697266805038641010743, 74223751722710463925843206, 177445339111835955975855554, 426660349738253864913265063, 1020043277397048746091723010, 2458361197920805132775250476, 5850653776038959285310024384, 14040073269893931439969327626, 33362625836310122662857649013, 79784188737923956026192222382, 188217685834098937705696528169, 448137841089733360326382738971, 1049083935041388992485891191744, 2493815780402815441126646479584, 5820521028057159334522023962182, 13648555979204938294722849980810, 31793240103545417913329130682885, 75531597040124149808527447732020, 174175751303540398899821801712491, 409678564900257549428047354587941, 968278938994398839273738140926212, 2291914202828550280567872176699840, 5436685205512177754209340732673929, 12891595840353097358622643673296462, 30572684187041764311839953756949332, 72385446479859574373659372464717904, 171579073607876521212175136091508232, 404894064150941044389292610259556249, 957397330598907691332180583493012278, 2254430639734195550375394884434062289, 5310075540303769329726744366212726439, 12442237738425950805191516471685021020, 29243761319035113138973410298744789537, 68460976375334118595020014125423787808]
def pr22 : List Nat := [1, 1, 2, 4, 9, 20, 49, 117, 297, 746, 1947, 5021, 13378, 35237, 95123, 254825, 694987, 1882707, 5184391, 14177587, 39289183, 108337723, 301997384, 535777462, 1207521023, 2757840440, 6640115055, 15889299340, 39624011276, 96921619443, 246454785467, 609724916767, 1565918341937, 3894056236208, 10062861903998, 24983492752752, 64753903651347, 159820498214521, 413484512778261, 1009434563213051, 2594940981659339, 6200624958274083, 15772597512292551, 36333038354456480, 90088295885982423, 194161867554890725, 456836826948876799, 1086200693586429362, 2636281285029579493, 6383784161576406937, 15654408159246123345, 38381189231317824084, 94469430651482251750, 231483278488451650235, 573445789061203633261, 1400759998427284475031, 3449842459613807785510, 8454249027940908217059, 20670938404370917635220, 50009412539849950820511, 122822411511284421071163, 292984224388311057699526, 707537518334159438941969, 1694204555434854512009733, 4030161560170733357254225, 9393284942884208121159337, 22747082739591571467986679, 51935751891129477301329918, 123716413336896813737031883, 295121848976010416755278280, 712269061345872494832379502, 1711647917585700764167707461, 4154324132806151532549693911, 10008784423392052635885145116, 24274676279781925169477092876, 58440997140323856244909963918, 141909999788753065293016027085, 339972834533194518803805422582, 821885917873012755168208532701, 1964998024403470367274053008401, 4733258179405613905146925883644, 11238426911192149768078167398635, 26954856375706481278945870362659, 63534483848696105720217395702183, 152184600713517736542457898328607, 357722015135579811567232428770450, 846297091651282292593115623217616, 1985926041196658999778248831695863, 4756281351728503083401316373891757, 11063286307690089223215608920570643, 26294750358999330044847798655918871, 62545513312652614487387850843505772, 149551054749418715912128634383271850, 357015111576802999361464552546359535, 854964081303109101818686832924260902, 2041726245027070610200125294885023146, 4884293794447880259792932227279423637, 11641440100335967397879620197101005153, 27816443986469938908307200648580248475, 66075644094217175222258373516331450323, 157502225283461323639900208547421167631]
def pr23 : List Nat := [1, 1, 2, 4, 9, 20, 49, 117, 297, 746, 1947, 5021, 13378, 35237, 95123, 254825, 694987, 1882707, 5184391, 14177587, 39289183, 108337723, 301997384, 837774846, 1509518407, 3361835208, 7848104591, 18607275796, 45663958956, 111719491259, 281788479395, 699418139815, 1791208390401, 4482045142856, 11579190769062, 29023613755904, 75395385471355, 188547395372753, 490440996156061, 1219318819127059, 3163513570497827, 7766297477907227, 20054191697724959, 48198268839953752, 122806004820499055, 285364287497734181, 709842638821879663, 1542071303600276650, 3651546723284675365, 8753891217416796881, 21273756773004641009, 52171585379113195188, 128208424753511118206, 316582662107079552915, 784668237607479877221, 1941700246527237186015, 4803408367726226074214, 11951134349034580350867, 29435993832880340190356, 72778621717870767755831, 179763231673869531949315, 441096122233795535443950, 1075768611972500420555625, 2649577377973697843694301, 6375563081864513705948393, 15449598373831664490666593, 37302833842586319252971447, 89022844086411581485802038, 209895681648236442326414387, 509492468951874916944079872, 1177970560974625824808663102, 2814405475571444611686952621, 6797976380286599428271053215, 16433403316691736040462265572, 40030358583406758356134481068, 97159606022645058758036737022, 237517135564847018153235601445, 576940589598543860557188612446, 1408274312836393470092259917461, 3415614785740500669879270864577, 8342469488646600096646562015572, 20128020044162145690595741427339, 48933809745629039191278383108763, 117822509553590645526214946294143, 285394475720668224637410076955407, 682601321740586018513931005255450, 1646462528504918262195235420926200, 3911329413446719981406808756699775, 9422019644476319815948319876084469, 22328644543937825431801820141265291, 53179416389335497600862847273787463, 125933460083316828283431869817469380, 303416447540586162724458030014326698, 712759139420152488832523109887684703, 1704907172440961279649042351398204366, 4094697328367412807793879008739812706, 9847138606305708078431054580736687285, 23730503673106754229352373831834531265, 57158390835779391413760584205120198923, 137805197689974337064736036288388070203, 331736774065639179737431951900703008895]
def pr24 : List Nat := [1, 1, 2, 4, 9, 20, 49, 117, 297, 746, 1947, 5021, 13378, 35237, 95123, 254825, 694987, 1882707, 5184391, 14177587, 39289183, 108337723, 301997384, 837774846, 2347293253, 4199610054, 9523654283, 21958375180, 53203932570, 128474988179, 322839446849, 797437796797, 2040027519663, 5107025177972, 13210338394224, 33230081257670, 86603137361143, 218068067621255, 570132652832119, 1432804794259009, 3745756197394829, 9343582044895349, 24397544069353745, 60075894605530354, 155721494057789873, 376126906700049839, 962848450694882527, 2243937996190600366, 5618049966833589403, 12272218883666698565, 29252434773302206427, 70567759763947917468, 172781341168937252426, 424215775543593098349, 1055135005474126037475, 2609773573933423154277, 6512492108847657871112, 16229671581028195243179, 40503283046709239079860, 100617947926082738324651, 252317161739717955158293, 623788064002710029395680, 1553411407398500379634299, 3849945193832100792781915, 9513663403290512172619727, 23277416382582230585257847, 57742482568067366289869717, 139352917437872004556477522, 340355232351391268279348945, 824602130288965539004629666, 1984620773476869626854178944, 4694320284763573419960146257, 11504637326070914897996610153, 26714759602033896346083561562, 64537312620735059256974616310, 156279500091451521666811146950, 382268997054326884788090877841, 932337895625348134813184941700, 2292239879556688568122468271311, 5602017439737443867206518780919, 13798471562212661907078105664324, 33724830653588618482107960702773, 82866441462580282768185276310323, 202117695382200631009407735822889, 496779447040317526603583900653285, 1205195270997094556973552290320730, 2947871531112840178374301801969154, 7136716655317848372936155507409865, 17392327537063864544625937080071511, 41829878469133530742702702781981853, 101554615830455819911984040793526045, 242679829029480761468446124113480992, 588557499909067200392934277391964168, 1403590062134262528771433721607866139, 3367572535308946615848879580664246990, 8027480782009891676110683865335464128, 19485434370440620592179270360188298723, 46111457284627723027472492322570600717, 111226127977869562089573367810139537183, 268732231812047121545614408235507689903, 651992124203402339274434529717951596381]
def pr25 : List Nat := [1, 1, 2, 4, 9, 20, 49, 117, 297, 746, 1947, 5021, 13378, 35237, 95123, 254825, 694987, 1882707, 5184391, 14177587, 39289183, 108337723, 301997384, 837774846, 2347293253, 6546903307, 11870947536, 26652961686, 62593105582, 149600627456, 369785311909, 912455166194, 2314660830264, 5804171274113, 14961419160962, 37800261221261, 98388896784456, 249470156759889, 652844225188080, 1656086370364128, 4343905200590554, 10974920340918060, 28816809507829616, 72245180620744277, 189000448366710384, 468350140871832138, 1217148856938165446, 2952814418077450518, 7584553210382503441, 17782004499246020574, 44619936733866694098, 98432354821917692076, 235343658306952556984, 571140149960538336595, 1406291548946161391843, 3477768141635919404254, 8654291964119827760194, 21662859330890260651971, 54127375117691097539449, 135736786177913761914037, 341045459866021440610326, 854735657594976993471048, 2138991023185840170363216, 5382362038876093632806155, 13400983766831488980248111, 33473835751600049604990009, 83503839036516788353718897, 206994419968586712866858370, 509935857384230661519812026, 1268241607554119693172868818, 3083975899186920742130143858, 7551325584551191409553682095, 18435758686985235730339365207, 44517930179784236222392145135, 106276891806630886937424003532, 261015576536143669324461467744, 613318599404716299919417241069, 1484758476905595274812826170652, 3632873300076468421859754764846, 8902996104329687762528681916198, 21961813256573003907135299362586, 54038991790459208267133438873855, 133715525010667086079968185761986, 329170517798557025201921274860486, 815393489419638157560251316745646, 2005728977906888968471510712251208, 4954186773284047881839117823208298, 12157555852269537569966102983591513, 30026309636121042831908084168443726, 73285917248579610013982943998276936, 180127524642216800304242404051635322, 438687826999494639392359468500182933, 1074434105309979263450759216599541778, 2600559059635037389152615216065926717, 6344507503894605603987984719809731944, 15266476602585958919958523391138254202, 37210609966263913220936188083088703758, 89385589264524305767912611673264649088, 215722765126402176770152657605721811338, 518195262899562783115235604926419459499, 1264672225934597484918406000811919927613]
def pr26 : List Nat := [1, 1, 2, 4, 9, 20, 49, 117, 297, 746, 1947, 5021, 13378, 35237, 95123, 254825, 694987, 1882707, 5184391, 14177587, 39289183, 108337723, 301997384, 837774846, 2347293253, 6546903307, 18417850843, 33199864993, 75686912196, 175788240684, 428707441672, 1043393232334, 2635459092307, 6570158961032, 16905849443141, 42684251088283, 111135717523185, 282342158264336, 740428697629126, 1886779602192887, 4966666283862315, 12643234976124335, 33366822196451625, 84571081305156326, 222942154949391421, 561169432087412347, 1474371339050193627, 3662091015059000479, 9561700882397452329, 23266835409044836296, 59987438694431181769, 141294297733125228325, 355923546898821994785, 788496455875163568446, 1901806444698772424015, 4628636755901710946242, 11460998131737754169498, 28493853934159144580509, 71381470964579014098698, 178750981607409846846861, 451726421492965361977613, 1134185322201675315122929, 2866585819764197896036011, 7230828848522392371365307, 18248498855937317049167793, 45826399368776805957167318, 116020122955100379159894602, 289768456844953187721534215, 728385215966260808897835901, 1821920299427413520014238900, 4543556630694797853912473105, 11225247595271583217200613624, 28088325282358966625935989696, 68493285956808993258471829188, 168876422934143585678528955535, 413341298219044005782017498616, 1006050560171747566326801451152, 2409798581994835435578898741427, 5963070346307535733922008018841, 14065206158856575707953720167120, 34412756158645309708759509080191, 84342229074573871428043287896149, 208749571580861810509007680491872, 515717024349278489120346774703749, 1282721077736164984825816877339932, 3175994370521936670497588515720535, 7911595976015618687406804432874489, 19582957488942546211484673965217716, 48793569819334575997668686775432103, 120625454549321862693626044501647185, 299598682149938537878146509641226773, 738708832574842222858235483066703559, 1834006631963272548289627068204790592, 4497645128017548200106919363363075722, 11113175083074027694185721605209956551, 27194412635997722700596254732636296502, 66956835897301462998412261142761761993, 162876199867901631495729008290659503656, 399614314805569804134595620516782136010, 966614183237492240246465529203675784215, 2370289837716472769210005058699267381858]
def pr27 : List Nat := [1, 1, 2, 4, 9, 20, 49, 117, 297, 746, 1947, 5021, 13378, 35237, 95123, 254825, 694987, 1882707, 5184391, 14177587, 39289183, 108337723, 301997384, 837774846, 2347293253, 6546903307, 18417850843, 51617715836, 94104763039, 212623942370, 502378845044, 1209153889921, 3003816109167, 7472633652339, 19060737991772, 48154352788654, 124875434252063, 318201713855657, 832904726711829, 2133173610770541, 5615656094017106, 14395196201863024, 38060151037519100, 97371248208980367, 257617571656463422, 656654772237203960, 1735492021729849468, 4385713327296331748, 11557048905281702818, 28828978182533031008, 75417450848076476947, 184526394751659490604, 476503435490691432586, 1127713685550159379095, 2852493835822579473763, 6361844245169872338119, 15377074187959042087408, 37746592568858146352601, 93651486955377233152101, 234074818665848257824642, 589356273506127382049390, 1485243151491635372386725, 3753485506866828370771333, 9530765970531741970404416, 24109090559717774106936644, 61166714391784950322889165, 155308596340495941596310665, 393196773170144230720054573, 993513792467894103646765133, 2522906484298492000577840200, 6336925756604529146433872486, 15970009604576190960481978370, 40182494932767926576584927976, 100457319152245875600938730712, 249651836836444664274238419099, 626197301141778843180994274190, 1537018380293742159352839390896, 3798825942673991841445672757748, 9361649961440138258591839998013, 22841375359901203028260657937118, 55182818612717949547808711407276, 136879035073331070387323653828358, 325921069974798442429835085676189, 798929683144853472879386687188693, 1977932189500886531173486580432575, 4900853488491234747491019465791678, 12222751072305484158092468438747695, 30437633427764712980628414644353486, 76148556649094769248430148738691278, 189756590756157359890973156555930904, 475134908214732294886017963917749461, 1182746466464103570535762123909694451, 2960566054187549227868764397995606687, 7358095690052498093074608510423216317, 18355014603270648396384665219544011590, 45492801476134653167881557311683353621, 113423351215948610154883591757451050593, 279588753256208771452994177100689109354, 693747569663931499473837605524994401920, 1706689381408815225068382348987541667983, 4220497757950184514490027591734626572074]
def pr28 : List Nat := [1, 1, 2, 4, 9, 20, 49, 117, 297, 746, 1947, 5021, 13378, 35237, 95123, 254825, 694987, 1882707, 5184391, 14177587, 39289183, 108337723, 301997384, 837774846, 2347293253, 6546903307, 18417850843, 51617715836, 145722478875, 264241658206, 605614276716, 1415624753265, 3468375551691, 8504987969059, 21590006067736, 54193625541466, 140205895855355, 356708529869313, 933404419444521, 2392346161983097, 6306197896471114, 16214049654776156, 42970183020986928, 110524732646889067, 293491213132177554, 753835807165652012, 2003098443150565344, 5117527984302499480, 13585066788804304806, 34421123982666312436, 91005865998603849971, 227770418687036151860, 597665351607805487094, 1465649880056654048747, 3803181226946386523511, 9026232833295917517015, 22898935693446305051908, 51386143394168891902817, 124911912597128392426677, 307146134910288641029182, 768385897145843149328066, 1924251203667121594705049, 4867912304968740986638629, 12328117133853725593259992, 31346198650511298655838424, 79579193922856466973429833, 203488800423449779541445221, 516684217540732957901278665, 1319025323493521013281126437, 3359838691929521521174246616, 8554948453202744420208464294, 21675043847193182950303143382, 55331840972587579066854473120, 139368601633524193736016392744, 353047203066524546763580006683, 890352406418283130004172039470, 2238248497411323791042476498712, 5575565739166986146377113694244, 14059164891965166159130494838769, 34598364107535379332029080792078, 86032938897032678900188368827860, 212532534097162922656505191685850, 522232597820126848007445816696385, 1264843204603495302571561652138233, 3159922945072035512867044954047663, 7553288836119393149121628699701690, 18670418681275326267980176290504667, 46291815339689711406011341703879638, 115810881540358824379073573866144454, 289082042584127803502517538072386868, 726405422287176537997016988460378305, 1819095713472287953798576907833327763, 4578585228668448117993160930357689151, 11465791908420441310724028592502151705, 28858641679336795587571831021882231346, 72162860594098213743989510382702792561, 181508425544525152605523558164504206925, 453015952111024759872412895966761720330, 1135334467912978505051492691334638761704, 2825505635446073148793490114137181665335, 7076601001955952036386103831608286900394]
def pr29 : List Nat := [1, 1, 2, 4, 9, 20, 49, 117, 297, 746, 1947, 5021, 13378, 35237, 95123, 254825, 694987, 1882707, 5184391, 14177587, 39289183, 108337723, 301997384, 837774846, 2347293253, 6546903307, 18417850843, 51617715836, 145722478875, 409964137081, 751336755591, 1707069711015, 4051265467191, 9816490278934, 24504455645236, 61334027006341, 157255425883730, 399988106095188, 1042113388685271, 2676067828352722, 7037870462902489, 18163524977165906, 48105006009105303, 124386292004915692, 330624943811499429, 855111035591551637, 2277451174185879969, 5873010292279739605, 15651059910910279431, 40146441122399821561, 106793107549836951596, 271778226097281414860, 719747978906046865344, 1807703271530376579122, 4757212205797361663136, 11710127713687885958640, 30420797198933568016408, 72621184243643713168442, 184652902902422019090552, 416632789404909176669307, 1017144327047378841636191, 2514611650126879097795174, 6298395602267343659157879, 15898967153960003097649492, 40283945105261504519384799, 102494844399177440104633583, 261776058764157071610598721, 668543563808777025222428790, 1708988561078717670974874187, 4385414621784815945661666491, 11201782337983338014663700044, 28685024569136778524371117507, 73457719781613487390480479620, 187548088023643481260543455119, 477656102886293803314784175058, 1222228237037428969110060194345, 3094078115660715721222589843087, 7856276986405968722781358214369, 19909403810330505445857086862644, 50160520466462097520671588326578, 125637135708178743572054829910360, 317415993748623282601356201293850, 785655599617980537979346227744135, 1958075959766693490058632278390233, 4866351783453470522818371477777663, 11986282813301649186921019133082690, 29252957668097180113195024952167417, 73199894082095330269269152235968638, 176523644393048025697560306034534079, 437302835295115557876969351505351993, 1092840865351619568395153290752327555, 2736913533570083842272576130700633888, 6895422133895703541985323590482170651, 17336068248023570554400796992775772830, 43794444477092342170595876110215290471, 110309516787338851218946844729727311436, 278930250898666877203084279691471018175, 702054001600434842893138200337652019955, 1774387957494132461488938034466681639329, 4457857125555198232737305584028308235835, 11256653888760842221889327675182237065019]
def pr30 : List Nat := [1, 1, 2, 4, 9, 20, 49, 117, 297, 746, 1947, 5021, 13378, 35237, 95123, 254825, 694987, 1882707, 5184391, 14177587, 39289183, 108337723, 301997384, 837774846, 2347293253, 6546903307, 18417850843, 51617715836, 145722478875, 409964137081, 1161300892672, 2117033848096, 4871193741353, 11456346827258, 28194132878965, 69533309747961, 177343668600699, 447953910133665, 1163872737398328, 2981901074615148, 7836070637799196, 20221954909449607, 53589506234974921, 138832198303238889, 369621962423055392, 959580146823217462, 2562370919923392916, 6644852642911097872, 17776474293515782102, 45958743342745625108, 122900263555049446419, 316192807220296821423, 843556075838326261448, 2151160913338934243648, 5719518258739560077629, 14394123278494886185507, 37971455526670631425691, 93782596574441721683158, 244393893207715645754427, 584703383097478135869868, 1493236045403050318006623, 3382519604832824572642950, 8295410340995494209568472, 20595658495097481237003390, 51842528461733440960785964, 131001007728386157068875424, 334480602828821471899018340, 852188602028784818315360655, 2186134643538324526467074755, 5607887122700321689652769479, 14414290275114446703759286920, 36975300863680178150780694674, 95427495461831850099921625221, 244464310400089084756829598128, 629187851757247514955528365810, 1615621683889868599374901102767, 4144558298728557648656238161283, 10580428266187419193674173606001, 27197120754414282168958341186906, 69001957022297961139360735756326, 176021836203552063213506910473299, 447043705111911255264723550780113, 1131483338328474557421216345297423, 2839974787326065489735986003901721, 7211149150916657956761101835238612, 17887357142207339846433704076567757, 44819892666798273906533836541315388, 111647395359951877278428988596950436, 276716375929815237500496652325141666, 677010253195014542756124259434727301, 1705014092163526028861961124990215018, 4123625264524937885459995726968862838, 10296242876074725284120194387345880883, 25779549610581176518705480220397477420, 65048021922004074623525353401012021555, 164015231877448094130434086212975308780, 416055302607717359486369623820564083715, 1051420766461429336856828395392025968010, 2670624760175201208534550281958576129484, 6756889730660687580796911110008357186634, 17165995963033186453312768576079927345539]
def pr31 : List Nat := [1, 1, 2, 4, 9, 20, 49, 117, 297, 746, 1947, 5021, 13378, 35237, 95123, 254825, 694987, 1882707, 5184391, 14177587, 39289183, 108337723, 301997384, 837774846, 2347293253, 6546903307, 18417850843, 51617715836, 145722478875, 409964137081, 1161300892672, 3278334740768, 6032494634025, 13778948612602, 32839336449653, 79985017782009, 200569686454139, 504857653874593, 1299744941840952, 3326807439738732, 8702401103732508, 22483007747481991, 59420398017081033, 154368081645404905, 410542721978138656, 1070046571636856118, 2858299419898535316, 7451941666406533136, 19962863613255605206, 51979381239006307860, 139364707994084388883, 361819370510550388399, 969368770268278127304, 2501870744962743013696, 6692426935257507406141, 17120037028566748927523, 45574380181327000291995, 115171263199517369405654, 304337592685752076508219, 753931027897392298173868, 1969327763758721794377055, 4731139368153608635942534, 12102543401927002320420568, 27601199898629763681368190, 67844033785629759469438508, 169137358462124333153518240, 427367275379454317100556388, 1085110357950919585404530063, 2772426287655180976907757251, 7117282083906135970299073223, 18277714724630887021812658824, 47081407033834537762286076050, 121537032428934178208465495173, 313469271660250827083489488304, 808455642772120409698915721970, 2092385313403073734256691431599, 5387204337571051854705262728579, 13899773934039448015810291210353, 35851067263751860334247888766298, 92184848356661082837196146206758, 236385538036948297917563760475219, 608888064912414070569851043745489, 1551664496288397835863011358209551, 3965703605566975771898493660618009, 10116573880391853065947998157274324, 25659278516264020347374898631266509, 64701406950650533800803195071126844, 164572963747500027943058786752711076, 410464866693576621430851824609109154, 1030437771254625967180796624879598469, 2580554867873886239952251628853310314, 6410607354541695035295771328623303798, 15790519247667153041458387385639591731, 39834244066840627998390901213266755116, 97101320003101135096326637422316925235, 242802568875169261287981670655987122156, 612474667973966400679003080749998420995, 1547722764858390082833948683564297956746, 3930764387511237575828119186353136527820, 9976510853381968303005602623796137951306, 25431302000471814560279291188764119467395]
def pr32 : List Nat := [1, 1, 2, 4, 9, 20, 49, 117, 297, 746, 1947, 5021, 13378, 35237, 95123, 254825, 694987, 1882707, 5184391, 14177587, 39289183, 108337723, 301997384, 837774846, 2347293253, 6546903307, 18417850843, 51617715836, 145722478875, 409964137081, 1161300892672, 3278334740768, 9310829374793, 17057283353370, 39396005931189, 93098356745081, 230074699121051, 570424348689953, 1460383344138584, 3710372604408588, 9676066521740604, 24928645464094919, 65803315757356329, 170828600378801033, 454400284140132960, 1185565252897298134, 3170144455444609780, 8287343316722738736, 22241263639737735222, 58151525003793406836, 156360877119109341171, 408298246512911155215, 1098171863833569639848, 2857038066009343404960, 7682475450845761557053, 19866543411150110049251, 53269593199407230730299, 136634203755304376325430, 364717472954642171775643, 923151178961641646575916, 2447054828765465275653055, 6075139041215225587160742, 15909676462858510431272664, 38348678571156153442598014, 98368049190376848638099532, 225056843062600893842706400, 556520570271173397861569540, 1390317935176731489798692271, 3526688166755467304444464419, 8987324043196368278960177127, 23065340176559356731719251336, 59245250444061055117218991634, 153258417461138584658945239045, 395193716125481822415100446096, 1024180938877188020120134842642, 2652418648741670685379397044943, 6876880575282500183911915241859, 17786453690060060254864791337265, 46243861965288977663547106277338, 119353533860544739850611698196006, 309299845305680650260086553405715, 799528229560988999186176662835537, 2064267791844930260509888912768879, 5304241931704909323895276096923129, 13716748852931389985895166360197588, 35025605663759069231140330676675789, 89887133116255497441296081868163548, 229702143191249042412104735550275844, 585100424705772140918331360097238786, 1478370428202813831846561100335728709, 3776220830026203135182554749514824138, 9437005935512582078138939583315447286, 23812784105373067275387351110971837971, 59750583440652500641370152926983284972, 149258565065669141071295530237081691187, 368522374097535826226269261651108756908, 934958061016354359039215883837400541571, 2285534432118086243345622656775832471946, 5755225106983244344569805489818641534540, 14534438440984679359880340886550328155434, 36992966337401672621441934184079084201187]
def pr33 : List Nat := [1, 1, 2, 4, 9, 20, 49, 117, 297, 746, 1947, 5021, 13378, 35237, 95123, 254825, 694987, 1882707, 5184391, 14177587, 39289183, 108337723, 301997384, 837774846, 2347293253, 6546903307, 18417850843, 51617715836, 145722478875, 409964137081, 1161300892672, 3278334740768, 9310829374793, 26368112728163, 48706835305982, 111720015494667, 267318016620223, 654221813063090, 1646599931634444, 4166603243773445, 10765433558591385, 27693961788408440, 72749194470951907, 188956785171523004, 501149958430968613, 1310125528273278888, 3498230150124190721, 9173017339341173275, 24613895735169361447, 64622430378492669527, 173890440758837745822, 456569226526123611278, 1230176957336853004339, 3222852945197361169079, 8691189504552348773392, 22678389525207951590763, 61069971845006712587177, 158489450726590193497059, 425674572579387205916094, 1094636645611202064576415, 2927658573631011890975003, 7431936178092227987158617, 19726782593003949409271897, 49161353035619943997814910, 128892064595123937806760556, 311748386709109101106499249, 802029568818406648714964799, 1843818968096873493711603997, 4566894168775541920680193350, 11476276484755343976970415966, 29156687851257509916683941706, 74576461456055181888363161726, 192052949336372175338431010930, 495428831135196828748406404401, 1282034691801096207679859295562, 3329773985614338202031778125194, 8636224961223966928512852480031, 22452575444195413685092987709374, 58442217218602019777152272547522, 151924957902107581072725220091759, 394708244604303974946677883662790, 1028704013000096033929716710641008, 2665956214883515333075699885801790, 6923306155517997777316457804787975, 17967787018897341080772542463913042, 46479573414324515323828165762902616, 119894566989037222427185323001789195, 310624325732127671369205851344183700, 796255040070076212941467433181075845, 2046982515975083794303514570754558070, 5251889063446146886081501492769057925, 13400389249987195357957748232152065828, 34004759140054722501664563997795145066, 87009512887380701242092888788664584351, 218456054744237078084464012991714232468, 552195080934632223880380120072963849229, 1392691030964973554871552555270834105201, 3485626453328083027871291260045965536854, 8657861143498745027183258116894235564997, 22001998909791663904685530962886501067041, 54160450147358559665954761644515794048808]
def pr34 : List Nat := [1, 1, 2, 4, 9, 20, 49, 117, 297, 746, 1947, 5021, 13378, 35237, 95123, 254825, 694987, 1882707, 5184391, 14177587, 39289183, 108337723, 301997384, 837774846, 2347293253, 6546903307, 18417850843, 51617715836, 145722478875, 409964137081, 1161300892672, 3278334740768, 9310829374793, 26368112728163, 75074948034145, 138088128222830, 320054242076549, 759694263975742, 1883912946187911, 4693965498336705, 12057471082271372, 30779030977603511, 80580523951216318, 208627397266732602, 552488673912701974, 1442519822281385311, 3850982762201555335, 10102150527543452906, 27122109722210410496, 71341684704446806002, 192215936319445564703, 506212656936225188519, 1366879563651726708072, 3596689157426699451760, 9727171110893774134221, 25535050817984448983612, 69033072909929041712769, 180579992306737590684957, 487568265680547638900333, 1267266130030561201311456, 3413302540869727830366412, 8792997928026160435447885, 23569209343007300794328522, 59971333616675821019127113, 159513377444415554981482092, 398191886714332750964348433, 1047538567365639899568360058, 2539096336941985100444958566, 6546478861600856490307318985, 15117399816155952085050977256, 37595914185458723595358091193, 94608165447506366566835383672, 241728178271500688267490848423, 619199842537446879064716527316, 1599967448514993274649492345198, 4141358944095408605417715505487, 10760981300464077399653996243865, 27953686173507864284616223379500, 73010300853365433912500168041284, 189961483188632805820208424305452, 496251392192247113667126541062395, 1295078656907233119609473481032686, 3381115061464365106254102575800638, 8804451740021913215463565627622301, 23036158495917882346940933930743631, 59827445816841804864570813838463213, 155936601409228204966351397995620931, 405462230883316481242849881356100580, 1052742184448253767037053048829841868, 2720293614463068568137692276552422826, 7072160911906651239329127115592071272, 18161942843582059441799815369266409819, 46861014132194329908268711763674323345, 120424929060609409462571443510290319679, 308458400917215256992406191788955893624, 784049841519329711437551783073122134484, 2014166599835062661866321156461937670287, 5066957338590862344515104978617277520273, 12863927861603107615535099606725484121993, 32501567466115100692950257391707845085620, 81782065178754123318108477499582054962262]
def pr35 : List Nat := [1, 1, 2, 4, 9, 20, 49, 117, 297, 746, 1947, 5021, 13378, 35237, 95123, 254825, 694987, 1882707, 5184391, 14177587, 39289183, 108337723, 301997384, 837774846, 2347293253, 6546903307, 18417850843, 51617715836, 145722478875, 409964137081, 1161300892672, 3278334740768, 9310829374793, 26368112728163, 75074948034145, 213163076256975, 395129190110694, 909844160044032, 2184212738324491, 5369640030644010, 13558970042954272, 34457703431276616, 89364292871211283, 230924656832873667, 608494585146174144, 1588690746103865626, 4227934076280997380, 11106503182344244716, 29767525666089577861, 78483038986298780837, 211346909952246564328, 558388769845631519634, 1508223693840247738587, 3985907042340388482455, 10791552718168343842336, 28484684190013462137147, 77166521834291637264604, 203252430216985323361637, 550464168708311469017003, 1443489049020435373435141, 3904810966427324879783927, 10175717122965019116482120, 27444406677036264229548742, 70911441145623238560313988, 190291413731634727230112837, 485376490883689351000633873, 1293659377667329719355883418, 3238106368409360355211265551, 8526063554426171059934444620, 20753647638485524285136858281, 53599121058249609596452502568, 124272468861840519057077030302, 310034681305976697222530321063, 783179500362675591966274272511, 2003092894777657090757312066648, 5159297915466729374312245122927, 13347891594943149203130904297185, 34662705816922165832942016637535, 90346957464896191560652955400999, 235644182547540449689769052452332, 615522267398321873663780480862165, 1612490587975819840335724376572786, 4214935210719925347568221579628458, 11039247182508665800588720491686146, 28928268569376039396929277278422996, 75694304098683838404993527721442773, 197857609288239143876414015265523861, 518692046322239298550561758866153695, 1351983948520891026617873650903267843, 3530468873987293204909045775576985546, 9210647097240943570243416673620955587, 23955215460267219614306710864258313399, 62120179768548186006165758599733418710, 161750997921044719207371849960719887114, 416828266260281827169212749562566783069, 1077203321907020643015097361854140321899, 2778108034051820939018862836123979657687, 7127344743697301941650140089850635315863, 18187600620637103835959572600140029242253, 46787685463361564116611830424887523904985, 118221680008842755673858386372012302555847]
def pr36 : List Nat := [1, 1, 2, 4, 9, 20, 49, 117, 297, 746, 1947, 5021, 13378, 35237, 95123, 254825, 694987, 1882707, 5184391, 14177587, 39289183, 108337723, 301997384, 837774846, 2347293253, 6546903307, 18417850843, 51617715836, 145722478875, 409964137081, 1161300892672, 3278334740768, 9310829374793, 26368112728163, 75074948034145, 213163076256975, 608292266367669, 1123007236301007, 2610538890838441, 6222292335671910, 15477437729267047, 38720964956416116, 99809283607803058, 255864736754939742, 671804018794495719, 1747710400991568976, 4642962585753327705, 12176794988230516191, 32619221300255389411, 85994266304365808912, 231623621255038797253, 612708050752815174009, 1656369260718854022912, 4387230658150929113780, 11896673452247318719561, 31506822248834359556472, 85541524946194883066029, 226346032526341357729562, 614838860103310430770403, 1622071712404508860485991, 4405167217114046791473602, 11571275171842101925798445, 31370412420772264517928667, 81914432242583372623270088, 221354065608421780739015962, 572765707498911506283023848, 1541205848409264395322270618, 3936926286751579907588122351, 10510788586460854181789875795, 26374355662711446962844545206, 69602327931040495597546913943, 169710965941177458033313180927, 439700132068236273362206062338, 1022563177511441890532257546336, 2559563395437250624835036442623, 6485660891108751809666694195177, 16647109833889482727565875700010, 42916585822670351025149864046635, 111622611397740359661254554230549, 290185096939904504016736084652782, 758726078686355230724367662252190, 1985037913457494013620862990180386, 5204643398445143768876003546620833, 13634890261150398321030620905868371, 35881482126845522182988994208314721, 94025106444583983045468064778603973, 247231212928743674470217440417613536, 649298779268124148044000129891116470, 1705060715553213412109997560753079043, 4465664457327658325438679571870601046, 11746578607546668801648675531216143562, 30671306613910454759248487639154705599, 80354474373791855149029241420830220985, 209999614512920965755478232415986082064, 547889209082235372450165100749419093994, 1422969118032584986280694722745843859124, 3717127029478228841515188585482660531637, 9593913355543121411742984524449510719738, 24874614235698937767914857080934440444578, 64248817830034175236980133741623042768785, 165406193575922214971308769150440041390797]
def pr37 : List Nat := [1, 1, 2, 4, 9, 20, 49, 117, 297, 746, 1947, 5021, 13378, 35237, 95123, 254825, 694987, 1882707, 5184391, 14177587, 39289183, 108337723, 301997384, 837774846, 2347293253, 6546903307, 18417850843, 51617715836, 145722478875, 409964137081, 1161300892672, 3278334740768, 9310829374793, 26368112728163, 75074948034145, 213163076256975, 608292266367669, 1731299502668676, 3218831157206110, 7438876868407248, 17910606794737723, 44195595353725137, 111975128935156438, 285671057806955523, 742974213959512992, 1928373204102766669, 5096748616463608779, 13361140030848367734, 35673456769687455460, 94132000243832484794, 253058015845036349806, 670570636006506952296, 1811377337495995275837, 4809985875476996289083, 13041909560183593719544, 34660447199960505411051, 94165641474049684300732, 250245338697145450353989, 680739859160093171048090, 1805774385554976080663887, 4914779176893211667327576, 12999115504539010186835702, 35352843071077281571910050, 93117868473493525662865055, 252752722959024539078722246, 661407564434500025118516223, 1790583862483731615184704807, 4643336638689827920247943919, 12504974255834485537881305587, 32038061164866947539183312723, 85641846982292946523555875990, 215378476228302496524649238932, 569365582830495849501881803613, 1392582658834157064963346039897, 3612699493676797752941541878867, 8443650990780523123350767452767, 21172121103402955843640268164922, 53811469421861532314114605924322, 138506450258926245136253763626202, 358298701896682764432704625055804, 932497573875397588524078310438077, 2436983381919663590053263044436034, 6377657905171499250410545619045394, 16735203028165328278812582696034522, 44008960277466062688307127968706767, 115724994312186229616059754200126713, 304490980694786507567619889473338722, 803232013249006801747589199983938684, 2112963647489220752036761708132797067, 5567511283200131352002678435584314999, 14672455816937047402059316411905001089, 38604599338036702205016417605129728535, 101438156354372758057584994716371931104, 267279845979136015650477499531863915772, 700111513306266919611024342284693875635, 1837057909767885861346195279923864061334, 4815565623016150171760635693682213201040, 12583535519752119922068464134291389260082, 32781875666730077358300582956598868163216, 85753678864280318364577253042558938942235, 222049072828990106216882996595544603297592]
def pr38 : List Nat := [1, 1, 2, 4, 9, 20, 49, 117, 297, 746, 1947, 5021, 13378, 35237, 95123, 254825, 694987, 1882707, 5184391, 14177587, 39289183, 108337723, 301997384, 837774846, 2347293253, 6546903307, 18417850843, 51617715836, 145722478875, 409964137081, 1161300892672, 3278334740768, 9310829374793, 26368112728163, 75074948034145, 213163076256975, 608292266367669, 1731299502668676, 4950130659874786, 9170176371075924, 21373205800075075, 51120793364399841, 127556824459174522, 320297047860329043, 827807889590278116, 2130935245915001761, 5610944568756205551, 14652689459839200030, 39044296901383367632, 102824855046731906990, 276219340591737897334, 731576436582043088508, 1976063740088347742985, 5251164271244541650783, 14245140207644788846756, 37919976892731340396983, 103141375033989644137048, 274790988019287336518801, 748761202148251770779798, 1993339431505132861928635, 5437627097619652838071160, 14449554678767136811759598, 39416710712613720241153078, 104452518912922535892576587, 284639538963736294095016114, 750773290190259866544869359, 2042873117687665759718924307, 5353107345330156133236718675, 14515533913766208622933647859, 37713840471140028797837095891, 101761681248304966919660960058, 261029576680882683946092361120, 699342803024887782949351745633, 1761631786745182939669005054997, 4665835591916344881048047315111, 11441048958721327979396599045743, 29742279852989137796919272568258, 69687791212489323594610018480946, 175509870831031483807937414476902, 446804106024496361308617235136320, 1153336640623562044945829337110949, 2991513501586496376530353013593102, 7810841292724354005062512660539810, 20424490159637123618458465435572958, 53723185818855190088620688073727243, 141093188286764387405324576179386993, 372088352502199659334813833472033954, 981252633653392451820115023602383924, 2591182054483166202795163966038506851, 6834089204018744738587055002851490407, 18093613987393607682959386920763238949, 47695937429273897605473998548074701843, 126100760511313740954355898658777346160, 332930683114729471168290671505622920280, 878680124607176585670880823717774584083, 2312803410663512132160886843895011838810, 6111895519913018438290002523820761408488, 16034603086166817794070470890914151197342, 42196036756536698439393987886311259147376, 110770185693413702725121806778419295894483, 290291204482573313641226332438685034882320]
def pr39 : List Nat := [1, 1, 2, 4, 9, 20, 49, 117, 297, 746, 1947, 5021, 13378, 35237, 95123, 254825, 694987, 1882707, 5184391, 14177587, 39289183, 108337723, 301997384, 837774846, 2347293253, 6546903307, 18417850843, 51617715836, 145722478875, 409964137081, 1161300892672, 3278334740768, 9310829374793, 26368112728163, 75074948034145, 213163076256975, 608292266367669, 1731299502668676, 4950130659874786, 14120307030950710, 26323336459949861, 61021054684149413, 147357347098673666, 364848223799202117, 926810502787773836, 2373491648248866275, 6190109855961555513, 16122878265822011472, 42737094373649957988, 112462759441508115332, 301073946634969197840, 797799284549847975616, 2150491494150355577267, 5722035550003810919461, 15506557253047381189206, 41360253349645738294765, 112461020678250522862750, 300454400861166238184127, 818942110239993958401180, 2187826020874864086168473, 5973912981862974618423438, 15944481188507515951319422, 43563805663870197461586034, 116071927212315058895195445, 317047565750952622764333416, 841944058337194840149413957, 2298387555440153630808235403, 6074452655842249446266864425, 16544909958179976376933187525, 43462431625295654191382064083, 117989866561913302260310435706, 307119398637908298210137030418, 829868406283602037859787543751, 2133262588797510396511557622967, 5721020671249223865971106447461, 14452175156632646421187177739577, 38312438602575319750198276971594, 94191584762321707873703217026742, 245407235591786102203132552274962, 577108060905093980055959333241066, 1455398834313465979916910832511567, 3720951623417451733071939249178578, 9616887671553641982466326586661772, 25012323245380848706891808882472054, 65472279597808643963494346031969393, 171735040872752778716013534547382211, 451898706531274018346056127647578946, 1192806834826359322429323529842874492, 3147887408088698089178204248005325803, 8324444578146010919816493744113152647, 22042824686269978805779456242904457125, 58341151308267511756456831631042791705, 154425584124281089544264408252567956506, 409690167602143053165803478373357680196, 1083418782813446772179210626237833879373, 2869500157163732346301610129840275460310, 7599184061510186739932682242506594130310, 20088473534728368828375325985585705844822, 53026061420941216728291602777307939969154, 140341835504357619762470477580957103528751, 369218469669601135724753890632035044776012]
def pr40 : List Nat := [1, 1, 2, 4, 9, 20, 49, 117, 297, 746, 1947, 5021, 13378, 35237, 95123, 254825, 694987, 1882707, 5184391, 14177587, 39289183, 108337723, 301997384, 837774846, 2347293253, 6546903307, 18417850843, 51617715836, 145722478875, 409964137081, 1161300892672, 3278334740768, 9310829374793, 26368112728163, 75074948034145, 213163076256975, 608292266367669, 1731299502668676, 4950130659874786, 14120307030950710, 40443643490900571, 75141361715100123, 175597961160575086, 421329451923004957, 1053893266066330226, 2655897788867880475, 6882004900478140303, 17774954188443244542, 46930825561842318858, 122996508486597344992, 328566184424230230210, 868697346152251490526, 2339392961610414175647, 6219592808853421087731, 16849723218752505576536, 44958460588807752970515, 122274450500769863953520, 327038801750486356556097, 892147302928491540768790, 2388017902272879469905243, 6528688308818183727593368, 17474243100301606397952752, 47828101448494118914528674, 127901565260642507199036105, 350192067174991686522893046, 934388343133981394802411927, 2558453264193567992073183933, 6803310651682936051969307985, 18602556101206205186074438775, 49251251112558139175576341593, 134387791721759079716142632826, 353410491727784661830572575698, 961340175768474039149486996781, 2505588436345891312849239468697, 6781101987824020693355998440411, 17462103241043092868449696441827, 46901712168239658436169753566584, 118638065302535681107477633986702, 315304600352540720598327690073022, 776491131553410035149845782745166, 2026475497855293229942459044366977, 4781970721558390501018866777115908, 12096384797149920065809951506672832, 30961624467715864743181476635141524, 80353576092516653966965555621129853, 209237133094390355715210356443769461, 549074728714532744106766930505044076, 1443794645428261239788230137121399312, 3810565074237901489070222330706814983, 10061193041711700081669659599730496967, 26682280090328084584946197541367406225, 70607424552909371182419494843380765165, 187458531008265225232397034011907315876, 497512727670646490269746800384604419206, 1321342048048771204862986304662582419933, 3504327424316594857956061885887323775960, 9325736844621842013163301209111445129510, 24706361826479456693985673928089062823692, 65623455255126108781071826011625936310054, 174061381479857525219586002988549007101281, 461405553099492235667398665235472375667292]
def pr41 : List Nat := [1, 1, 2, 4, 9, 20, 49, 117, 297, 746, 1947, 5021, 13378, 35237, 95123, 254825, 694987, 1882707, 5184391, 14177587, 39289183, 108337723, 301997384, 837774846, 2347293253, 6546903307, 18417850843, 51617715836, 145722478875, 409964137081, 1161300892672, 3278334740768, 9310829374793, 26368112728163, 75074948034145, 213163076256975, 608292266367669, 1731299502668676, 4950130659874786, 14120307030950710, 40443643490900571, 115585005206000694, 216041604651475657, 502216738904806099, 1215667840029932510, 3019890580285985614, 7690877770296151723, 19756692719497372521, 51662731850277685665, 135008270603394814579, 358737142468442056176, 947441120029034902263, 2542460495578225942638, 6760647871474688926569, 18274835884441368996863, 48805581288592687985748, 132580501953338601958595, 355146608209296871693674, 968290833634314482094487, 2597693563594312972092504, 7102081583007410281295545, 19063240810602357766776245, 52209673694122057996068507, 140115439794323107445142369, 384074734372259814793730112, 1029321434626909672004559390, 2823233887511273964761272230, 7548195645045810596390839338, 20690164598292001911682581131, 55144799096788928887849279218, 150968235125917734781727806077, 400377731016675617242067091410, 1093927977267928973145635175309, 2882152300184624060317696175500, 7847524538529722705612582921484, 20498407674433939916441804438622, 55522803629800407446760323799309, 143239620861781613780417442025701, 385324660214446114457064762287018, 976692451194762272292383018647972, 2597552161397120479968007256222387, 6417659020377454626042543385241949, 16771063540595298646361906817669106, 39699134105442232721245583649041671, 100665050835945326713271441264512382, 258403169819914092280774812694232671, 671210106725147994402430413715429670, 1754841764102211093276664746044733145, 4609597711144524099820359337265424474, 12150622150430324816292339596237511682, 32142506454934816182759497853637630834, 85116061649847448545254138868593241661, 225776501895339049265194468220743208049, 600339093543510647891430641026611865504, 1594767280330209307782055561629681590832, 4243428371681658210700015234378067684733, 11299612374623852381026348727703978191618, 30068400381324929882078725947490066681437, 79986878064545453499524704448946239997908, 213222590750870655808296311938442951353358, 566465745484107679992449910340461654087076]
def pr42 : List Nat := [1, 1, 2, 4, 9, 20, 49, 117, 297, 746, 1947, 5021, 13378, 35237, 95123, 254825, 694987, 1882707, 5184391, 14177587, 39289183, 108337723, 301997384, 837774846, 2347293253, 6546903307, 18417850843, 51617715836, 145722478875, 409964137081, 1161300892672, 3278334740768, 9310829374793, 26368112728163, 75074948034145, 213163076256975, 608292266367669, 1731299502668676, 4950130659874786, 14120307030950710, 40443643490900571, 115585005206000694, 331626609857476351, 617801744110806793, 1446837850441933898, 3482230601109988390, 8731142817150157969, 22068392823617386401, 57326397105371719671, 148531716212496895777, 393065889014624262294, 1033667533912711419987, 2767504500714309293856, 7341000182614018411143, 19821132084087246281195, 52878450117036534440226, 143575294403549005973957, 384600557160915998542224, 1048620909647417286415465, 2815306261990686920691162, 7701319443732353425262899, 20701957277805885528021623, 56750914115716571960761509, 152637656071284368569522131, 418981103574098405483914608, 1126155644563276101696302514, 3094545790379289268900789812, 8304919497868588756183734396, 22818991983863501182329066173, 61111033050414853352760069402, 167811568605315935936378145327, 447763437935456584400864225624, 1228156946993155346338886689677, 3261078638263306275920214268492, 8923716800287355797500527027826, 23546166121391073433728615783744, 64200341889167288839533129495939, 167878076140671192084404214366351, 455634124989323096686982435449304, 1176804713223867600167365126709116, 3169713039489131270476821125323871, 8049754782060220644015019125034689, 21445742284040677226913862128665380, 53059027533913440255668809577523307, 138996114262770091810495565659099976, 329811787629238004044950389952147013, 838442867200717777508936493405554882, 2157335406260004027381451474716675805, 5618786899119160674164061826089054960, 14701397449836208778668657790309673976, 38768578362800469516016796588837082508, 102284100841525119926908574756500910899, 271209024723395685620307343872545240085, 719815560832085296285472223900659336482, 1914649302452903098879219001174667526896, 5091937916006351574094685471917303017975, 13590638029751904128062143299154067340948, 36180356313387845722288827676661524198281, 96582029215632747661154965457376527924066, 257676648152545898992314631064964083656814, 687670598784825590410147120751969216419786]
def pr43 : List Nat := [1, 1, 2, 4, 9, 20, 49, 117, 297, 746, 1947, 5021, 13378, 35237, 95123, 254825, 694987, 1882707, 5184391, 14177587, 39289183, 108337723, 301997384, 837774846, 2347293253, 6546903307, 18417850843, 51617715836, 145722478875, 409964137081, 1161300892672, 3278334740768, 9310829374793, 26368112728163, 75074948034145, 213163076256975, 608292266367669, 1731299502668676, 4950130659874786, 14120307030950710, 40443643490900571, 115585005206000694, 331626609857476351, 949428353968283144, 1778464460299410249, 4145483820824941092, 10057649256580063373, 25053032312334673560, 63958929302521246691, 164781420095513236976, 431866202367948995361, 1132160637040381896234, 3014897951667986651702, 7986677192006524866540, 21486229292181635039566, 57314950903709853063904, 155260821255096900154144, 416145875170388721478397, 1133127660504348697559040, 3045782444695704837443599, 8325675183497293153625056, 22421239289311497204858864, 61452579228486000527506546, 165666994633644360842133364, 454908775372266747877603381, 1226306013205022572540168298, 3372374222382138600808456758, 9083344401702306286493094199, 24990119332628611903365258930, 67218882486339606273877983295, 184929376716595186682386339763, 496088889584800548720273810749, 1364111963936473086972966361108, 3646196916324582637029643468364, 10010899836346236204082802605394, 26633884901915082097746728804087, 72944709721547756413701993669152, 192774926642460907140542492371246, 526324673315214425331523096747529, 1378530615321898650778254965204935, 3743858024207079122912956183805147, 9691349831146048264998346741220575, 26128411834861548578255511000324590, 66471215915085186814284871902419728, 177327177689594856907719690053687570, 439787995994800834939863600476422214, 1153298573529783570602174989457482426, 2747121545981103788757889783481197204, 6993539644838353810939287151447170252, 18036781575931422516231885427738465899, 47076830535189828910507382803842062068, 123494583736234245429690269288070415440, 325854928437171367329370400170923994661, 863033885435391047228693848645925544193, 2290103896328685714987512399709858489030, 6091758302784255575489523368053441917377, 16239232710963056690643662372765548536488, 43305761692174445052744902331296318501947, 115589192077977746711282986446895099658370, 309165267949061290419928713178246818305358, 825675644573754145850679808762593401309133]
def pr44 : List Nat := [1, 1, 2, 4, 9, 20, 49, 117, 297, 746, 1947, 5021, 13378, 35237, 95123, 254825, 694987, 1882707, 5184391, 14177587, 39289183, 108337723, 301997384, 837774846, 2347293253, 6546903307, 18417850843, 51617715836, 145722478875, 409964137081, 1161300892672, 3278334740768, 9310829374793, 26368112728163, 75074948034145, 213163076256975, 608292266367669, 1731299502668676, 4950130659874786, 14120307030950710, 40443643490900571, 115585005206000694, 331626609857476351, 949428353968283144, 2727892814267693393, 5094912174793224236, 11956505964516629661, 28850745728207806136, 72503784488235794987, 183769987174878899856, 478388191712394869417, 1243243754454671024082, 3296878172796566745470, 8694950744066864091964, 23334766297357882320934, 62082030668984602729928, 167962273774484592054576, 449600882079169114623525, 1223440133818873695065752, 3287720524995672589613399, 8985515546936648351024184, 24208734697326061658049672, 66374787041943981944711850, 179127597722296490356826892, 492211039716715400518034733, 1329164919225584382580409410, 3659099101575986129267752054, 9878751594736118186342090023, 27218706102105258703270086362, 73434698116694125762443940503, 202415806526098032781369430155, 545096212566576611004054479133, 1502465017190942249844524944108, 4035428492179424058202681131028, 11113471831337711012785253326162, 29746428858599482562725992818679, 81784675128937013259903114058344, 217809560507210840039853579355718, 597602957651527107162846636699409, 1580913683939374043453245470134335, 4321387949396171542181485183076483, 11335094668190876550018636728817919, 30828206239194397915017321434731774, 79877435777007494719939760690251968, 215725519557640654793193593332962794, 549527677230949511801263302128924150, 1468154279858849363695413485509409970, 3648535745300027339986625694435721940, 9583478429290437480858389096649237844, 22874035655658319097189709448869543883, 58428676312292812237238475745278796252, 150886299763724059231589667306778987024, 394692077200308218435690853165275793789, 1037510321867608825047959284785754371457, 2744299209744048247867497227839420696078, 7272129174157502270362252829683260591185, 19369382327795262022390249604385087894168, 51560994464949146592843325895775925556763, 137743880833912810049726100675493090194866, 368107708138123813814232392445756485038990, 985143789692233184032679474330083670176077]
def pr45 : List Nat := [1, 1, 2, 4, 9, 20, 49, 117, 297, 746, 1947, 5021, 13378, 35237, 95123, 254825, 694987, 1882707, 5184391, 14177587, 39289183, 108337723, 301997384, 837774846, 2347293253, 6546903307, 18417850843, 51617715836, 145722478875, 409964137081, 1161300892672, 3278334740768, 9310829374793, 26368112728163, 75074948034145, 213163076256975, 608292266367669, 1731299502668676, 4950130659874786, 14120307030950710, 40443643490900571, 115585005206000694, 331626609857476351, 949428353968283144, 2727892814267693393, 7822804989060917629, 14684398778784323054, 34306531356743192922, 83415355745306568559, 208321022503288140393, 532946047997748737277, 1376910502353788000339, 3616041632065886872451, 9505134909904369029685, 25369774336801581592112, 67393237978363801766099, 181659023594922680580829, 486094632148442316835079, 1319562892915224407154893, 3547205873167258388235738, 9680650833332413319895409, 26104584740635523086170563, 71510609938615468169566701, 193270060677550591574255555, 530885977417670464886617424, 1436341599209732799285877329, 3954632797661809943927516193, 10702568088477359466742173935, 29504066084482882138365878840, 79837862514531864599705517932, 220275057012968731439263180806, 595338135535450490189985059432, 1643272613308878373839573615656, 4432943795179812307259100703903, 12231810054988426539582783331995, 32914333218922089197987289334775, 90727620911042181851201075404168, 243208505053581224984337986198367, 669532342888483459846737076826468, 1785710095213238683155834425038320, 4902873973384770009204682560742658, 12994450770589850517768823828928836, 35551005711869510436480175867989442, 93380861633766118861262775109740866, 254244203642624685089708484908621824, 659853601692581549972021634605551553, 1783457784997392588760543391246624712, 4553177591350192894456302499252170883, 12173417213742521150777491041851305436, 30315434861791635459501325005525396332, 79768449829369551255932538675079321449, 190943765674211106279708633116312369246, 488276617570817276631977794416219558135, 1265058471404813967254816878974500202144, 3312576630091666418764119619699883219527, 8725948868882926274832213273004406302046, 23125446593055880238426857264544519954395, 61425168449154501820456318219330491973006, 163672870053285937567963014710163585566071, 437313733251077784955052136473083288355006, 1168985319303644410887826111925816103859984]
def pr46 : List Nat := [1, 1, 2, 4, 9, 20, 49, 117, 297, 746, 1947, 5021, 13378, 35237, 95123, 254825, 694987, 1882707, 5184391, 14177587, 39289183, 108337723, 301997384, 837774846, 2347293253, 6546903307, 18417850843, 51617715836, 145722478875, 409964137081, 1161300892672, 3278334740768, 9310829374793, 26368112728163, 75074948034145, 213163076256975, 608292266367669, 1731299502668676, 4950130659874786, 14120307030950710, 40443643490900571, 115585005206000694, 331626609857476351, 949428353968283144, 2727892814267693393, 7822804989060917629, 22507203767845240683, 42129336345804110551, 99060965723428403817, 239612242459531810909, 603351292899296995938, 1533366602135006352919, 3999359076529871836272, 10420403093624496392278, 27693147418552674127925, 73229050500203246317333, 196890024908624287204492, 525372935998517184250288, 1424216378058881363195655, 3822858052566797942728811, 10424779512306854987518776, 28098031021972971420980488, 76947357709547948129792524, 207998110390090504620797258, 571442457197712984694146363, 1547250097526178007270858552, 4261984414450337334801223300, 11550072968465259190958592702, 31866532726721427878963361376, 86391611759530406550959678066, 238637474383326162195803637943, 646553283388349510639739758535, 1787351868771278601371204826903, 4836739120145601841926225576747, 13371768589750100714862850919370, 36121402715815389938302294835724, 99812251328037600688746237118856, 268854278419472865455365902397439, 742369145373909084738550018752265, 1991982699015232883269645836523847, 5490170651419768645385625885184863, 14661983947016487383013019940641111, 40309557488017684120586971705726243, 106924480020801322948878794024230070, 292968110465196573348855616308624218, 770314009981374717198191371474618143, 2099840521073810682551879056106690871, 5457376546736327260682067084103005409, 14767667511840945635115631668077797215, 37742627725970615710378250971858541908, 101108223346446290274626601604879846646, 252140043571087489864830846235835350887, 664346083495727708715812960404562258742, 1594628053956595811771417128426721005723, 4087511246974094689486375390824669409420, 10600388714635425965505350904376058916807, 27845346097304855783060866107985885545397, 73420396354395616627407617057141254682057, 194959076190209883248744036811111152005159, 518830514559909315674864845284561918023868, 1385623411092297742095334725663123937549809]
def pr47 : List Nat := [1, 1, 2, 4, 9, 20, 49, 117, 297, 746, 1947, 5021, 13378, 35237, 95123, 254825, 694987, 1882707, 5184391, 14177587, 39289183, 108337723, 301997384, 837774846, 2347293253, 6546903307, 18417850843, 51617715836, 145722478875, 409964137081, 1161300892672, 3278334740768, 9310829374793, 26368112728163, 75074948034145, 213163076256975, 608292266367669, 1731299502668676, 4950130659874786, 14120307030950710, 40443643490900571, 115585005206000694, 331626609857476351, 949428353968283144, 2727892814267693393, 7822804989060917629, 22507203767845240683, 64636540113649351234, 121568169491273644500, 284626649995222292275, 693380107970677958670, 1735931436045613519066, 4449503151886776649932, 11523256078248913185745, 30326490259390567287836, 79913690019253282800184, 213680398919436836754010, 569194461734511867860089, 1537225048177232316664998, 4123959424573031572585985, 11217865851474417733465647, 30238983765981714250469497, 82682755909689111586837999, 223640324415093964907353379, 613816927281861594244715244, 1663936242175360962460637605, 4581082253995691037120395221, 12434362616118420367832024691, 34304911934026801870946546185, 93188728418574612554076051338, 257493443553823328460836897761, 699384290936508822443106770334, 1934704355550307467862948465584, 5251273442034783084333155022516, 14533539038101684862462971475358, 39401208241410538428000052907349, 109039397698828506640105087185179, 294991914246622145310480493372415, 816155293403580564706995391016809, 2201543433001338039494923334827466, 6083643137566046967587420372640192, 16351711100281381371989805167762146, 45107262281114154204777623338240168, 120615438010342843443376143498907997, 331934821154929589143071340333569926, 881727609420634748225602038287736981, 2417649148683956146214214106366425801, 6367649871900114235362975344020135402, 17369162776519856214861924548372831217, 45206615408872551072935773032434129641, 122477200772180337522153722457851793998, 313537282998651275931643874975169258306, 840415549420638140799648126392904959349, 2101202275403902810630010065960919312212, 5542299026160503409009784164562202462242, 13336548277059468973235433633693138110307, 34251496106506491515797084744970232169222, 89026443733062199380368660948790531253667, 234030038748296715301536803522742531367237, 618976388665094649330813427812662893607424, 1644979683714507252551153573189665747213644]
def pr48 : List Nat := [1, 1, 2, 4, 9, 20, 49, 117, 297, 746, 1947, 5021, 13378, 35237, 95123, 254825, 694987, 1882707, 5184391, 14177587, 39289183, 108337723, 301997384, 837774846, 2347293253, 6546903307, 18417850843, 51617715836, 145722478875, 409964137081, 1161300892672, 3278334740768, 9310829374793, 26368112728163, 75074948034145, 213163076256975, 608292266367669, 1731299502668676, 4950130659874786, 14120307030950710, 40443643490900571, 115585005206000694, 331626609857476351, 949428353968283144, 2727892814267693393, 7822804989060917629, 22507203767845240683, 64636540113649351234, 186204709604922995734, 349263190108871643509, 822653188197976661138, 1994477596500210924002, 5031232012909620811038, 12815986880521900210425, 33493680724959385498302, 87476165212550256894562, 232877451333190694070508, 617413320659294283880653, 1663072391778507603517596, 4448499492483664965131899, 12082573485114818754274099, 32516581529966376439901955, 88831177514919778824269781, 240111330749554660835557429, 658738482385826415910779202, 1785627908703109391574348043, 4916183350832033710813783715, 13350752786958673932445617049, 36844428787038812029410448007, 100191303997085544487194851520, 277013509578956495226802069617, 753535158376194230171171030298, 2086425270056340443222343889786, 5674442620257872177765434153354, 15724005192922464881894501465620, 42737598801619105784942420848973, 118458394550092864324459107366929, 321490577638215843258942785880369, 891217765136791092626633255774057, 2413443647978959118631090105735178, 6685462933941199421703114655684754, 18056054676356517152830507918365288, 49959847171253308001084466268125098, 134393561739575703633525021316265147, 371252728630826102601676439896423472, 993632819173619796516683917341483165, 2737608467648758284512955850941011725, 7280337663723204773598812293751811542, 19983299961361584452606301424922985831, 52677630234406584024735024429287886037, 143912397442986651044852278953499461132, 374905046884958284571785523703587058002, 1016737102735787724081442159312983156311, 2606841323880595087230445481401482816398, 6997086805346912128533192938299735515064, 17514430594922870660172589389602235433063, 46287124288235525369792472022667081804978, 111601607930755420686694347921367708493773, 287203494546876762807531339132549691511529, 747892519837055477621502261349649872525892, 1970181113538016728663554019561079353334536]
def pr49 : List Nat := [1, 1, 2, 4, 9, 20, 49, 117, 297, 746, 1947, 5021, 13378, 35237, 95123, 254825, 694987, 1882707, 5184391, 14177587, 39289183, 108337723, 301997384, 837774846, 2347293253, 6546903307, 18417850843, 51617715836, 145722478875, 409964137081, 1161300892672, 3278334740768, 9310829374793, 26368112728163, 75074948034145, 213163076256975, 608292266367669, 1731299502668676, 4950130659874786, 14120307030950710, 40443643490900571, 115585005206000694, 331626609857476351, 949428353968283144, 2727892814267693393, 7822804989060917629, 22507203767845240683, 64636540113649351234, 186204709604922995734, 535467899713794639243, 1008857897802899656872, 2366887015710056915470, 5776050851329312793974, 14491829266966207172031, 37217774917057845412982, 96600195983191483685528, 254663402356966684571386, 672716119411956413613651, 1801981105143780158335160, 4811040062084450037825997, 13017507332041137115854513, 35007628135061036276831407, 95392472867268450424948739, 257823681341303750958762711, 706188097510900918298695752, 1915037761217306009610533501, 5266752261038189469343155653, 14316110807592050267222005043, 39484362257272343429729861865, 107507134908215221767496196842, 297186503829430082174962343299, 809768493565360648404282190154, 2242422891970079526815254396750, 6111519678790332221236400136056, 16943069422013909906145772957958, 46167089369386706978871958152735, 128069856337804679344918559610553, 348624789500044744100792315999619, 967555018230391541002176009986511, 2629683343462886726022804753596426, 7295904302333635370619339515568466, 19789774956270834451235415744498350, 54869713944630773264023643818781740, 148372870636878357891719388837602577, 410944697343748188366195844509168122, 1106899703987532069722959543504007211, 3059984588782326704175359664504439909, 8202075305751615145212264070203974466, 22612567631592113831346257976217256971, 60208427125994758974637326408139050151, 165434869772053522936064250561262500528, 436655483470734762284217431727565944636, 1193525133677131926256861641602199264007, 3114787813194667076823298263109241801860, 8453729936630943107939719290853427909750, 21705377936533322387426080892656847679385, 58322752469964559223787859300363931440734, 146273801809809122828741601501164690692529, 386910139315841922907795868795295049500891, 935746611730077489394388548704460792309940, 2410906622965970689089317718248835361939516]
def pr50 : List Nat := [1, 1, 2, 4, 9, 20, 49, 117, 297, 746, 1947, 5021, 13378, 35237, 95123, 254825, 694987, 1882707, 5184391, 14177587, 39289183, 108337723, 301997384, 837774846, 2347293253, 6546903307, 18417850843, 51617715836, 145722478875, 409964137081, 1161300892672, 3278334740768, 9310829374793, 26368112728163, 75074948034145, 213163076256975, 608292266367669, 1731299502668676, 4950130659874786, 14120307030950710, 40443643490900571, 115585005206000694, 331626609857476351, 949428353968283144, 2727892814267693393, 7822804989060917629, 22507203767845240683, 64636540113649351234, 186204709604922995734, 535467899713794639243, 1544325797516694296115, 2902354915423851554713, 6846986650756902072460, 16633700865821385729003, 42036986014481997166169, 107309553977467376470388, 280901329442942621894293, 735365863678470386405082, 1961015071358777166190331, 5210499115270940838701275, 14060063332783895278460634, 37696212459523999160470510, 102555962429639595108741593, 276691963723518732661768302, 757123410535376205767407641, 2051488368761873728555630976, 5638895490256580464286730494, 15324239970658509431087275844, 42260437217337442933269517878, 115098777642114820365497443483, 318224600131911007380599551768, 867779866559945511309475253843, 2404132796899619856579864137062, 6560121216010999969203830017634, 18199969610210180693868435885437, 49672745932815293456050826829336, 137932024245947831400029128042402, 376264419386771141518497624151767, 1045584727934675598865352323478136, 2849205978903627992172104947666109, 7917743652268466058484723617895762, 21545217974468642821271704229256974, 59855364194544684628564140491583439, 162492148578844375143574253948703186, 451144922088714087225770346830120357, 1221041688727385918185260112391477136, 3385705571066366543959007820358274476, 9129130614221148279972960971380426734, 25263203699344125822411908384639083969, 67769398275171863094053474887903762681, 187091142608899533222594457791390208281, 498547543446799973185856880000103579278, 1371100537946720773715614630210648306300, 3623176219822788833985958693344799621852, 9914428972531217379919390806539597531249, 25894238893896366198273850623999441594232, 70374637599963055403300978214140423363703, 180884594189231377989062675751438717568391, 486616784084807083008060398458040407490253, 1222472483353979922489715656630505307922989, 3237843514236065876767387700999157603380461]
def pr51 : List Nat := [1, 1, 2, 4, 9, 20, 49, 117, 297, 746, 1947, 5021, 13378, 35237, 95123, 254825, 694987, 1882707, 5184391, 14177587, 39289183, 108337723, 301997384, 837774846, 2347293253, 6546903307, 18417850843, 51617715836, 145722478875, 409964137081, 1161300892672, 3278334740768, 9310829374793, 26368112728163, 75074948034145, 213163076256975, 608292266367669, 1731299502668676, 4950130659874786, 14120307030950710, 40443643490900571, 115585005206000694, 331626609857476351, 949428353968283144, 2727892814267693393, 7822804989060917629, 22507203767845240683, 64636540113649351234, 186204709604922995734, 535467899713794639243, 1544325797516694296115, 4446680712940545850828, 8391312448273596368575, 19722352460854774321233, 48214289204548774350629, 121208486155117625135423, 311787845393276507816593, 811037827756788406914717, 2141701189668230398835786, 5669163877133399044647430, 15212130377731349223362424, 40703014787289002955006415, 110310022258970917169535008, 297351954242697068955194772, 811540818662471962679611896, 2198389271599054240084978121, 6032428311608772088294235369, 16397526323697244249861351349, 45167950206602705901425301183, 123105166407828192624027384448, 340119413482548324716173726273, 928455165430199859064593677888, 2571441537372737571108050983207, 7026503566904755342958281380794, 19493766917398556440225258408727, 53297731457760074132185150441431, 148042575916795289674972458794707, 404707581578430636866772568526712, 1125299298109096399508298432255276, 3074248962308372004197556029736734, 8550861845219324768283184283636077, 23338644901701178228172584430826254, 64918181107607911481970613246099759, 176871102578613439008650788607532381, 491865878806644509992640500452107102, 1336981867723741275954197866152323811, 3714898808808031383287388586842426601, 10068532053602636147833194793128732669, 27936894184543185090942321494518077709, 75414012754294832180689199914210019071, 208897497025653074213345090414099699931, 561005705435365859649043838940400160943, 1549601443292449057566080887371179810110, 4135315748568693633905997903995003298217, 11380655672458248574064121700663696716809, 30106994139830381426315422111880212662427, 82455597153512132019725494636312573075038, 215643049597879726087837147607394164414936, 586436660444538419528371395595818444146163, 1510033220015967094362866473648061585696399, 4064780405506161064445457683749479844821406]
def pr52 : List Nat := [1, 1, 2, 4, 9, 20, 49, 117, 297, 746, 1947, 5021, 13378, 35237, 95123, 254825, 694987, 1882707, 5184391, 14177587, 39289183, 108337723, 301997384, 837774846, 2347293253, 6546903307, 18417850843, 51617715836, 145722478875, 409964137081, 1161300892672, 3278334740768, 9310829374793, 26368112728163, 75074948034145, 213163076256975, 608292266367669, 1731299502668676, 4950130659874786, 14120307030950710, 40443643490900571, 115585005206000694, 331626609857476351, 949428353968283144, 2727892814267693393, 7822804989060917629, 22507203767845240683, 64636540113649351234, 186204709604922995734, 535467899713794639243, 1544325797516694296115, 4446680712940545850828, 12837993161214142219403, 24169033173795320172061, 57107650630429866052285, 138995209006879808538735, 351807971809741420474045, 899971442015599323931277, 2359588544602317145526358, 6189425520547442909194306, 16532794549474691341058340, 44020238599142650159724103, 118967709607066159941097124, 319678738102371549672202160, 871028513240190585071988880, 2355076959880940254230604357, 6455409921065815631262547213, 17530651736372318846298596449, 48258335495247117040654700419, 131476963312846348881202215844, 363172744950590874160293752021, 991498368099136473692196669924, 2746147989646029145161122976731, 7508246830252750714814084565438, 20836652860189856234707368642679, 57023048707255010139518517113919, 158480239552525862740758167658191, 433819570243154214191943530414908, 1207197600226480272915851064303280, 3303776463762358987888324579048942, 9198843181474673400161436414894577, 25161624523056574977964400400179322, 70082115388973132760600115396432175, 191448810440949448813521417985688285, 533268164209016824021485517933485706, 1454232446028705806266892551264792775, 4048733132256477703073271381862948661, 11016400193505601682722625190073257969, 30641775673231191900865521143194157641, 83112548861135192840242115039214282799, 230909147557453942307874422092414122739, 623794202370693165019127485007080848823, 1729441412764480075219300820998325832898, 4649285361923349503638848764144391772849, 12855293322409347764977568919031880485437, 34328798889740035641478267059680103505659, 94585665517685390903071425512384792254442, 250428565663831986276030043459484393861748, 686519009341238634192052371178241118981687, 1797451276290539582042178153128494327418151, 4892773296365067356844636729117537489189158]
def pr53 : List Nat := [1, 1, 2, 4, 9, 20, 49, 117, 297, 746, 1947, 5021, 13378, 35237, 95123, 254825, 694987, 1882707, 5184391, 14177587, 39289183, 108337723, 301997384, 837774846, 2347293253, 6546903307, 18417850843, 51617715836, 145722478875, 409964137081, 1161300892672, 3278334740768, 9310829374793, 26368112728163, 75074948034145, 213163076256975, 608292266367669, 1731299502668676, 4950130659874786, 14120307030950710, 40443643490900571, 115585005206000694, 331626609857476351, 949428353968283144, 2727892814267693393, 7822804989060917629, 22507203767845240683, 64636540113649351234, 186204709604922995734, 535467899713794639243, 1544325797516694296115, 4446680712940545850828, 12837993161214142219403, 37007026335009462391464, 69945643791644008271688, 164671195329308092977541, 403159944454597989351657, 1015513380466526603905904, 2616348407826599989914418, 6818487185446935877945053, 18034839749336745980728491, 47833122568023250398886794, 128544852505331910036771762, 344674310787255484573379801, 935488076902646793155611343, 2526823632391663048841777691, 6907782286087518360647650724, 18751840159846491696634868018, 51529777102553510831714069894, 140399201665979081939838448605, 387342924541160868215759315942, 1058055544302196621687189608497, 2928159754594547672107082097292, 8012641092916441650660235183187, 22227491807165368318155656082048, 60900089057751571353582177155671, 169235587296111093911640614195129, 463954104972532311511730638002867, 1291246700108876524747228884569001, 3540224706929055112067478013555671, 9861511064374736329987070834460485, 27032408710288997286882599682790947, 75345232177162067893831276466414818, 206357583359184463380264885164603101, 575355403191167145786467536118207210, 1573764809867530087724366371188501354, 4387246783134757875347591699906095350, 11980211862946462303198566892198773404, 33378361788441605643657935703653243566, 90921800816782778829719477532077964406, 253135558732727850362752038492421643167, 687343945929282116769306454599200521581, 1910717817862069259413654701450824459028, 5168500580474113891445728838053531751962, 14339172828782885700255342950858598751119, 38586219039166947478583475353995829344112, 106774420232993009811537908931110466897474, 285449234957925834300149708259822933366127, 786948126292314567347853072485082947537174, 2086398604340189956204333065898382654990400, 5722576756308641302893283549718497325982460]
def pr54 : List Nat := [1, 1, 2, 4, 9, 20, 49, 117, 297, 746, 1947, 5021, 13378, 35237, 95123, 254825, 694987, 1882707, 5184391, 14177587, 39289183, 108337723, 301997384, 837774846, 2347293253, 6546903307, 18417850843, 51617715836, 145722478875, 409964137081, 1161300892672, 3278334740768, 9310829374793, 26368112728163, 75074948034145, 213163076256975, 608292266367669, 1731299502668676, 4950130659874786, 14120307030950710, 40443643490900571, 115585005206000694, 331626609857476351, 949428353968283144, 2727892814267693393, 7822804989060917629, 22507203767845240683, 64636540113649351234, 186204709604922995734, 535467899713794639243, 1544325797516694296115, 4446680712940545850828, 12837993161214142219403, 37007026335009462391464, 106952670126653470663152, 201678221664317555369005, 477173997124616914134585, 1163541485806564453471760, 2949411644841685151437594, 7558627712147125125774333, 19848184039752209637910227, 52162944649219357498688082, 139535939326829720367036570, 372281552433172543517411945, 1007540757176910216431791751, 2712635911619745559509318435, 7402862284397274948520656116, 20055856746813220122922884986, 55049996468618615922777299966, 149829517151797868193743262405, 413062326752650089454815706910, 1127728931832303281597835621545, 3120018648862533713844226535716, 8537311428392329449538444100555, 23681467637127374392785502815960, 64909346025887531692527521552143, 180411612438903059169109126125305, 494957660761262808275282182317411, 1378113043338637553509869576561393, 3782506130023964651274445803727119, 10543100955555913557306672862864637, 28942626879584884254976317426814851, 80737987790492052950096496186737818, 221529136976550459649551146544879685, 618331695909149846987241491231159018, 1695086229954107882736313548964505706, 4731812891008502114233645501646062302, 12956017305082088645775972651522374036, 36156662367440676526413949240881781846, 98810332393476282914629316513388425806, 275646646653578767737864048137852820583, 751414192218330594514524594124203103245, 2093907433553793232792245695313179685732, 5691051154626926088375395415235640491402, 15835871808534377157705821592583301877063, 42863676370757620972036379500524313020128, 119046934917378545710436963158590751165338, 320584755056434774227646574552771454048943, 887899327509002172871990010699455839934526, 2375897354584010744263154852253731311709256, 6555501438872714323026289303966609170712372]
def pr55 : List Nat := [1, 1, 2, 4, 9, 20, 49, 117, 297, 746, 1947, 5021, 13378, 35237, 95123, 254825, 694987, 1882707, 5184391, 14177587, 39289183, 108337723, 301997384, 837774846, 2347293253, 6546903307, 18417850843, 51617715836, 145722478875, 409964137081, 1161300892672, 3278334740768, 9310829374793, 26368112728163, 75074948034145, 213163076256975, 608292266367669, 1731299502668676, 4950130659874786, 14120307030950710, 40443643490900571, 115585005206000694, 331626609857476351, 949428353968283144, 2727892814267693393, 7822804989060917629, 22507203767845240683, 64636540113649351234, 186204709604922995734, 535467899713794639243, 1544325797516694296115, 4446680712940545850828, 12837993161214142219403, 37007026335009462391464, 106952670126653470663152, 308630891790971026032157, 584126667251270384797737, 1377446826059871394798064, 3377222325348299034090202, 8521201743287006361742701, 21987237442285279051173267, 57403625485425377561182530, 152049401731648176434625354, 404046495460788624304368089, 1087327449091393705546503143, 2920872760356339866890475379, 7939871641103202024720342308, 21486669567767590253454532442, 58818687705871504268534786990, 160003175992255526283634270101, 440316540917674560116553415310, 1202059647185615797213607640569, 3321379189578675089636037448180, 9091795888822920562963253360987, 25197798422730304991964287990184, 69111429054832253078997231836959, 191998621189194817790802313808201, 527257087351327105090074831511779, 1467715300083283465390057261235985, 4033555411002592998431095929040575, 11243309745300581273234290174708301, 30912465205238169796398527259051987, 86258640324991097928430238598812890, 237114545189706563602707746105793685, 662178455026132184065974349734698330, 1819290461245844505517438930381727850, 5082439545102610037707497406615843038, 13951835367809879548155931754785101572, 38976802429918306563483026608398531622, 106839798545347844560159561185277750846, 298445006831673693536294063937068305783, 816472674323746322453774401811885535933, 2279074538153155347127542498812637512484, 6220480846176347545063235875000344576874, 17346076348502714122900736261236027114983, 47189232031759885559396703310933378479920, 131409059850763462021548423248468703392826, 356053106465741850531658179430064581167295, 989443225059863546614871132620340423444414, 2667652774889251739909940614940504430663992, 7392171320332885658283494767169357448218980]
def pr56 : List Nat := [1, 1, 2, 4, 9, 20, 49, 117, 297, 746, 1947, 5021, 13378, 35237, 95123, 254825, 694987, 1882707, 5184391, 14177587, 39289183, 108337723, 301997384, 837774846, 2347293253, 6546903307, 18417850843, 51617715836, 145722478875, 409964137081, 1161300892672, 3278334740768, 9310829374793, 26368112728163, 75074948034145, 213163076256975, 608292266367669, 1731299502668676, 4950130659874786, 14120307030950710, 40443643490900571, 115585005206000694, 331626609857476351, 949428353968283144, 2727892814267693393, 7822804989060917629, 22507203767845240683, 64636540113649351234, 186204709604922995734, 535467899713794639243, 1544325797516694296115, 4446680712940545850828, 12837993161214142219403, 37007026335009462391464, 106952670126653470663152, 308630891790971026032157, 892757559042241410829894, 1686077717850842420830221, 3994484108930241086154516, 9755725310450890465871329, 24764915468404018285462680, 63576243321244798081825670, 167172315429405756710201047, 440156309800332234350130458, 1178990823953312100278053772, 3151111405632404252310464501, 8540775987420222612404951987, 23036305275450055775161992739, 62947551776251114654792983336, 170878402726293972327929386310, 469674437237507097025810285621, 1280706514186249988922252048094, 3535873647171806670105048145139, 9672857429214024250471177569986, 26797861640453389060586168451571, 73487070374086330615047402502118, 204124476776223476180277494065932, 560693455415420298009372445670290, 1560921022025743790071564575113273, 4292118608843616413955648250763397, 11967756955268900648958059661845022, 32933041811346837159469639010695186, 91942958055539275420025176346371241, 253045366860384171134944984729931937, 707152913635314370322682423237881705, 1945818058475469428831785362243841567, 5440852875245620127068329080893496542, 14963630742442429206026062153011978148, 41850412003174239357836392696221750123, 114977812691485645222519227791515288437, 321615454994612671985367602723772306548, 882261384645843278807649842261431081008, 2466812322791759922246882795380616644517, 6754813355642245640728357666889237191006, 18873839588541697201549460126816056608385, 51547194983084521503939476868256120461390, 143891217608636205830163576800061439054473, 391726209700133873429219110732365989484253, 1091793441401792895693963773634733416463521, 2960675694466116671665256776387248255725600, 8234083312310505560886963661112394882657681]
def pr57 : List Nat := [1, 1, 2, 4, 9, 20, 49, 117, 297, 746, 1947, 5021, 13378, 35237, 95123, 254825, 694987, 1882707, 5184391, 14177587, 39289183, 108337723, 301997384, 837774846, 2347293253, 6546903307, 18417850843, 51617715836, 145722478875, 409964137081, 1161300892672, 3278334740768, 9310829374793, 26368112728163, 75074948034145, 213163076256975, 608292266367669, 1731299502668676, 4950130659874786, 14120307030950710, 40443643490900571, 115585005206000694, 331626609857476351, 949428353968283144, 2727892814267693393, 7822804989060917629, 22507203767845240683, 64636540113649351234, 186204709604922995734, 535467899713794639243, 1544325797516694296115, 4446680712940545850828, 12837993161214142219403, 37007026335009462391464, 106952670126653470663152, 308630891790971026032157, 892757559042241410829894, 2578835276893083831660115, 4887241667972482496984410, 11541240428535373287531117, 28335945704572983928782256, 71611061352624970779294716, 185027466610250584926798927, 483901430193402063480795264, 1283443458361254345345151370, 3416260400667949951326943019, 9206773126465734704884052911, 24774504242905299802047796357, 67430087480202208778569881110, 182821713351161077922011708242, 501132535345478557619223260499, 1365628291475025118644624055056, 3763370592154745837619775883689, 10293312326900114481859613111364, 28478662546165130260445485694629, 78115474628366895605181207486672, 216781624739452490457321058451710, 595769170527264225529646332906892, 1657640343163418285337182831404635, 4561729056220598865522745507760693, 12715686781810850354410896839891346, 35028605606251439565107850327600368, 97787755471182173465279754989430699, 269488042421784939376007857267432579, 753235019628397779787411624663883089, 2075912903013499018054094786877330817, 5806851457560912535887290582682195956, 16000390892697859901778542743555114916, 44777170124065658307771087830456668715, 123290125996784642601593904002809750379, 345155786950358128702043893098028411270, 949285111998029689382648104129729811638, 2657115270428872089048842699722572655167, 7297870874548918737216612685967457488092, 20419470306515230906633162833356934808729, 55966461547934495201812275986190506114074, 156497228446514760829419096514106347579213, 427832578141844902467042199092448537953727, 1194982828511386841112391831720700696409957, 3256737857195930972553358619256203644562394, 9081692652084723177098773426782342294164417]
def pr58 : List Nat := [1, 1, 2, 4, 9, 20, 49, 117, 297, 746, 1947, 5021, 13378, 35237, 95123, 254825, 694987, 1882707, 5184391, 14177587, 39289183, 108337723, 301997384, 837774846, 2347293253, 6546903307, 18417850843, 51617715836, 145722478875, 409964137081, 1161300892672, 3278334740768, 9310829374793, 26368112728163, 75074948034145, 213163076256975, 608292266367669, 1731299502668676, 4950130659874786, 14120307030950710, 40443643490900571, 115585005206000694, 331626609857476351, 949428353968283144, 2727892814267693393, 7822804989060917629, 22507203767845240683, 64636540113649351234, 186204709604922995734, 535467899713794639243, 1544325797516694296115, 4446680712940545850828, 12837993161214142219403, 37007026335009462391464, 106952670126653470663152, 308630891790971026032157, 892757559042241410829894, 2578835276893083831660115, 7466076944865566328644525, 14120075705428457119191232, 33493616258359151592102486, 81926402460197306105935176, 208236984102288339411739962, 535478135731263740113997564, 1409806386929015453096497005, 3717984128064440759631176474, 9972687203702980602887107066, 26698315359467540340466242147, 72451079764313042998812125015, 195770045276441251840777145657, 535632193679754233119172278969, 1456498710126906713620831527311, 4008677140198646650938781002834, 10950464026334394569262401916239, 30270919538747223913359454038134, 82970665856020442786634527617977, 230151315139459502236425273716675, 632330832024085011251300967749397, 1758960674284126327433618283440680, 4841114198111270082292917676778838, 13494488289199477319264947947030506, 37189088933209910230641993096067658, 103841038117231695945698930718134794, 286371427624284530598931695460932884, 800731623106881202257222543806110034, 2209026489524018596230452663082411957, 6182645726720069720179985746949766581, 17057620871663374713522074857215339231, 47771973833175640856180909555654845995, 131744411275741304085311459262419818699, 369166882199206693473885578502752892465, 1017284131286509967609549764495734130383, 2850721194830240289799880934453627281842, 7847583335331456405178749203522055540217, 21988155861685420097741659967830167630664, 60431197780283928604421444643172395171814, 169262800017429898366109219875834757939603, 464246524033822035139706881227154575885377, 1299280323071808582710883579032464027835622, 3554812546101036308452869602953941506682204, 9936903052341642886805300345891390976604782]
def pr59 : List Nat := [1, 1, 2, 4, 9, 20, 49, 117, 297, 746, 1947, 5021, 13378, 35237, 95123, 254825, 694987, 1882707, 5184391, 14177587, 39289183, 108337723, 301997384, 837774846, 2347293253, 6546903307, 18417850843, 51617715836, 145722478875, 409964137081, 1161300892672, 3278334740768, 9310829374793, 26368112728163, 75074948034145, 213163076256975, 608292266367669, 1731299502668676, 4950130659874786, 14120307030950710, 40443643490900571, 115585005206000694, 331626609857476351, 949428353968283144, 2727892814267693393, 7822804989060917629, 22507203767845240683, 64636540113649351234, 186204709604922995734, 535467899713794639243, 1544325797516694296115, 4446680712940545850828, 12837993161214142219403, 37007026335009462391464, 106952670126653470663152, 308630891790971026032157, 892757559042241410829894, 2578835276893083831660115, 7466076944865566328644525, 21586152650294023447835757, 40959693203224717920747011, 96858556349928438763224226, 238101291881750604726318062, 602672828235053837071798289, 1559127925826326779669387505, 4083821898362853509734758199, 10846218206252251863338516491, 28915740212092613540073666072, 78020773165182755479980940665, 210306497088094509482648035832, 573119366019924241655296438994, 1556379887495318259965437982761, 4271759293504874611661228130259, 11660659663560841835142055067814, 32173462596222591853056295121259, 88159492273701728132680200114152, 244207750466096518022328621445850, 671037894142353549535428685358672, 1864811629718652097362246628701855, 5134450261490174228177670561451913, 14303346065149009316415765461947081, 39443824639302023493571123911990258, 110095929579940596267381883038752944, 303896499663346327434182969628822709, 849611306947538035124653233356054209, 2346535581076913731558150642900996532, 6568027564869851562153168625456964481, 18145596111540671742562887958912248606, 50832797625257801569654031499674977520, 140414773096571524789801171868685239499, 393643181624806491292511936861450387665, 1086799499819229060080716939568626588708, 3047587553349594354101153952405210539417, 8408098673986166861574722590673322846342, 23579647790824241745744382734692494442539, 64972754645951606056087701370402449034039, 182188815318961721275024381773734014338503, 501204580427585347242819383648516180332027, 1404703621850012835358427298325280414198372, 3856767900334811391405831474928487485205979, 10799869594882331127329215811642820205905132]
def pr60 : List Nat := [1, 1, 2, 4, 9, 20, 49, 117, 297, 746, 1947, 5021, 13378, 35237, 95123, 254825, 694987, 1882707, 5184391, 14177587, 39289183, 108337723, 301997384, 837774846, 2347293253, 6546903307, 18417850843, 51617715836, 145722478875, 409964137081, 1161300892672, 3278334740768, 9310829374793, 26368112728163, 75074948034145, 213163076256975, 608292266367669, 1731299502668676, 4950130659874786, 14120307030950710, 40443643490900571, 115585005206000694, 331626609857476351, 949428353968283144, 2727892814267693393, 7822804989060917629, 22507203767845240683, 64636540113649351234, 186204709604922995734, 535467899713794639243, 1544325797516694296115, 4446680712940545850828, 12837993161214142219403, 37007026335009462391464, 106952670126653470663152, 308630891790971026032157, 892757559042241410829894, 2578835276893083831660115, 7466076944865566328644525, 21586152650294023447835757, 62545845853518741368582768, 118444709000222462211059983, 281273597182338651621989576, 689017438836229930863141317, 1753403299678972990699909318, 4515544951368733978691473339, 11903939686116659012282468584, 31441320072177014283470449641, 84431860502320080443988160494, 226409766965213850974733510554, 615147605230046705308232657873, 1664763959952444551697021318658, 4560538843660508057346374887405, 12421290924499252339373443637223, 34226802194776510245484775834370, 93660183622812902657774946891677, 259209845938066410496269650696009, 711678294840130659538833199912871, 1976722685243462579878995296770842, 5440489818684998321189401968030272, 15151448366892346207464075472663612, 41782419265765293274418259103351569, 116614891210954058179462942114412632, 321980835375678894782913959982791131, 900280337421801264829981903214301730, 2487858035248530488191122102397144931, 6965598104657196026109752189044957632, 19259824005036066926742395032938196458, 53978385298832797664070032263577110895, 149264321540748055273524738404206644816, 418711199966946999365750100691991260369, 1157566133972209193599557289563862630084, 3248572537534717716407591036002470412718, 8977284780436454177073928984700535170733, 25200227079302186923045722334634482365304, 69574125349440933975953803550818574689114, 195319505036767537523146480502131701278936, 538576675775569512401221759143414216979759, 1511557897912970650324364073843292727721374, 4161571003373933393449452583813051127743449, 11672892257010981118409613718815533031422379]
def pr61 : List Nat := [1, 1, 2, 4, 9, 20, 49, 117, 297, 746, 1947, 5021, 13378, 35237, 95123, 254825, 694987, 1882707, 5184391, 14177587, 39289183, 108337723, 301997384, 837774846, 2347293253, 6546903307, 18417850843, 51617715836, 145722478875, 409964137081, 1161300892672, 3278334740768, 9310829374793, 26368112728163, 75074948034145, 213163076256975, 608292266367669, 1731299502668676, 4950130659874786, 14120307030950710, 40443643490900571, 115585005206000694, 331626609857476351, 949428353968283144, 2727892814267693393, 7822804989060917629, 22507203767845240683, 64636540113649351234, 186204709604922995734, 535467899713794639243, 1544325797516694296115, 4446680712940545850828, 12837993161214142219403, 37007026335009462391464, 106952670126653470663152, 308630891790971026032157, 892757559042241410829894, 2578835276893083831660115, 7466076944865566328644525, 21586152650294023447835757, 62545845853518741368582768, 180990554853741203579642751, 343819443035857392990572344, 814109130543267413600306853, 2003586683093047956174240390, 5078457564050402651008718251, 13154856603187033839654123944, 34506066518999432610531005273, 91749724467181773184112344350, 244985883183708917161202592650, 661806806236771686369195402801, 1786540721829245541141651967954, 4874581535691025657758028965533, 13258029250327626061402343907527, 36430730165116950135089526830386, 99609732117937165892978645532141, 275148091107689323765518754551609, 755146844612330089046360432096887, 2094478187052803288884815654163818, 5764751939015368202272010153204560, 16038197537969197419347656732684428, 44239794449393982297978177925950113, 123390965733833270157161102936569896, 340869517203508801871198535706270043, 952679673799672666938160160913755458, 2634671477223673056114648419895609235, 7375079709714710111562204418767371408, 20411784064815445131974046140262269882, 57206858996821986936733915320247424943, 158378657241856446407024629402775670816, 444352753690286052098382352139037680577, 1230200680594825817703174353017779306180, 3453618756887028367092793462273302298542, 9559638479280671431229878743650448537757, 26849442993446075443787313313699832460488, 74269751476645497007894001116144897302474, 208651969945998156595130011652797626085736, 576622830101689300260902294418931962707551, 1619843489733159318225405716430852714696542, 4471181112581238768439982008755792285031097, 12556058803973181113504563601549317394787659]
def pr62 : List Nat := [1, 1, 2, 4, 9, 20, 49, 117, 297, 746, 1947, 5021, 13378, 35237, 95123, 254825, 694987, 1882707, 5184391, 14177587, 39289183, 108337723, 301997384, 837774846, 2347293253, 6546903307, 18417850843, 51617715836, 145722478875, 409964137081, 1161300892672, 3278334740768, 9310829374793, 26368112728163, 75074948034145, 213163076256975, 608292266367669, 1731299502668676, 4950130659874786, 14120307030950710, 40443643490900571, 115585005206000694, 331626609857476351, 949428353968283144, 2727892814267693393, 7822804989060917629, 22507203767845240683, 64636540113649351234, 186204709604922995734, 535467899713794639243, 1544325797516694296115, 4446680712940545850828, 12837993161214142219403, 37007026335009462391464, 106952670126653470663152, 308630891790971026032157, 892757559042241410829894, 2578835276893083831660115, 7466076944865566328644525, 21586152650294023447835757, 62545845853518741368582768, 180990554853741203579642751, 524809997889598596570215095, 995099685397008617179949604, 2365567792800530363333525892, 5802419783465367465327289255, 14783771596870704671870908703, 38125877616074256682123860293, 100618261655015092159514839149, 266161778101596637980020794517, 715561001028332823832349299848, 1921559675750136479012065460200, 5226970145991259781127593401730, 14166782826248260644575730160298, 38852021807950299956577987553264, 105987296299318444683514517149128, 292364455657041748273625111954982, 801267762752934691248542896120462, 2220264269798940326737020830753055, 6105504123572390742439828618011517, 16976523341637939631515124394184069, 46805803787011170487213274457171950, 130501936764753446539241942055232329, 360477621800869721898296480503066016, 1007338347894211013032223707370318842, 2786300811443720645467438274349650581, 7799917617979623240532799296340030411, 21596711726923168319011769504662747439, 60540316040110002104787073179391614036, 167720976271296830394883254918290975652, 470727145996534883351733917301682065702, 1304400317235251226393196941689751256011, 3663803249803878609208700270856456119214, 10152986103008567584022107175392083910525, 28534615168138372825869781762575457036031, 79042130829761714076861578116664413798887, 222239826446313847554810098438926475818631, 615203333547769553157421299993072734645776, 1729938644536283469840954091486040151313961, 4784529970187248637291678373944823483198773, 13451985698702434709713998584056141667363945]
def pr63 : List Nat := [1, 1, 2, 4, 9, 20, 49, 117, 297, 746, 1947, 5021, 13378, 35237, 95123, 254825, 694987, 1882707, 5184391, 14177587, 39289183, 108337723, 301997384, 837774846, 2347293253, 6546903307, 18417850843, 51617715836, 145722478875, 409964137081, 1161300892672, 3278334740768, 9310829374793, 26368112728163, 75074948034145, 213163076256975, 608292266367669, 1731299502668676, 4950130659874786, 14120307030950710, 40443643490900571, 115585005206000694, 331626609857476351, 949428353968283144, 2727892814267693393, 7822804989060917629, 22507203767845240683, 64636540113649351234, 186204709604922995734, 535467899713794639243, 1544325797516694296115, 4446680712940545850828, 12837993161214142219403, 37007026335009462391464, 106952670126653470663152, 308630891790971026032157, 892757559042241410829894, 2578835276893083831660115, 7466076944865566328644525, 21586152650294023447835757, 62545845853518741368582768, 180990554853741203579642751, 524809997889598596570215095, 1519909683286607213750164699, 2890377790690128959903740987, 6852039779244564658467719445, 16883011588429099058151769083, 42849167597080644051255796148, 111114461612807064090919141049, 291877467998186969211961334172, 776963770781415859631064465963, 2077428245123347262193419343415, 5618478404416900334168973862600, 15188587892139309112097938950263, 41487092807353974509957037545259, 113008204451085494708430854690038, 310857185552677534020969781257497, 851189264182186978550091466602147, 2353998977511157289108025892336430, 6470240249575689202274372696240282, 17964586798334672136468044345046234, 49526624016780024444884528463754095, 137942476168303047037194068173308094, 381096977848183774955486833719883401, 1064195068073204930368636420382847527, 2944792057903424942441714605356962061, 8239590233140842029776227375740530781, 22828594694076367343619304337915001474, 63976196350840078177575173242548433201, 177386848533342602127655607914428050737, 497816639335491943409599684296789810122, 1380876931066107052464129758325094874136, 3878956527720169328957077148504691556909, 10762448422040948870322856362742633194365, 30255118016522224668040374479952282528991, 83928547174297241027203164163768794899222, 236078075631533769477500128802334650039116, 654603416867130914913743520678902789064551, 1841808758136846864298823790471503395351586, 5103767833215924152543865168592153166962328, 14360588987044245661084736117222709506228165]
def pr64 : List Nat := [1, 1, 2, 4, 9, 20, 49, 117, 297, 746, 1947, 5021, 13378, 35237, 95123, 254825, 694987, 1882707, 5184391, 14177587, 39289183, 108337723, 301997384, 837774846, 2347293253, 6546903307, 18417850843, 51617715836, 145722478875, 409964137081, 1161300892672, 3278334740768, 9310829374793, 26368112728163, 75074948034145, 213163076256975, 608292266367669, 1731299502668676, 4950130659874786, 14120307030950710, 40443643490900571, 115585005206000694, 331626609857476351, 949428353968283144, 2727892814267693393, 7822804989060917629, 22507203767845240683, 64636540113649351234, 186204709604922995734, 535467899713794639243, 1544325797516694296115, 4446680712940545850828, 12837993161214142219403, 37007026335009462391464, 106952670126653470663152, 308630891790971026032157, 892757559042241410829894, 2578835276893083831660115, 7466076944865566328644525, 21586152650294023447835757, 62545845853518741368582768, 180990554853741203579642751, 524809997889598596570215095, 1519909683286607213750164699, 4410287473976736173653905686, 8371949462531171872217884144, 19922830955002313485652098481, 48928806330227072906256454944, 124793648762386529014670623340, 322275661663919113486964628152, 851439345262459613104822536214, 2255257678067880306202188613198, 6069891580353022676652772778203, 16322440515871118093555561815717, 44446356960712998755128608214212, 120639670970867549528670431643717, 331190537295685765326519484600719, 904746321692157156941006020100810, 2498577346314429227101582808999407, 6857551234619198885518258415662957, 19020904269392981424130630058710147, 52388168616871502852462459793714288, 145822282251146983896695498287321403, 402645629615122094663257390004284714, 1123911077763324482638786757521998444, 3109455612156347124374781739721602438, 8698598981409665930564305944407678197, 24101936794925713475981337651094362828, 67543870095588098155672063668149909048, 187337550265193013524166617054105810330, 525810109177096045091978036389655801379, 1459331197194379902168033471656275347500, 4100441534434809889233208133382489790534, 11385556883790598804712132351489796297984, 32020190488503778424190675457688004714719, 88911319891845413469539049117382264648054, 250229695357711037162931738499625599071423, 694680566732658696736941572066542254782488, 1955915898626182686103363493553863420998941, 5427756456938061926693215660091055864487853, 15285138292964821963933073747522936744944796]
def pr65 : List Nat := [1, 1, 2, 4, 9, 20, 49, 117, 297, 746, 1947, 5021, 13378, 35237, 95123, 254825, 694987, 1882707, 5184391, 14177587, 39289183, 108337723, 301997384, 837774846, 2347293253, 6546903307, 18417850843, 51617715836, 145722478875, 409964137081, 1161300892672, 3278334740768, 9310829374793, 26368112728163, 75074948034145, 213163076256975, 608292266367669, 1731299502668676, 4950130659874786, 14120307030950710, 40443643490900571, 115585005206000694, 331626609857476351, 949428353968283144, 2727892814267693393, 7822804989060917629, 22507203767845240683, 64636540113649351234, 186204709604922995734, 535467899713794639243, 1544325797516694296115, 4446680712940545850828, 12837993161214142219403, 37007026335009462391464, 106952670126653470663152, 308630891790971026032157, 892757559042241410829894, 2578835276893083831660115, 7466076944865566328644525, 21586152650294023447835757, 62545845853518741368582768, 180990554853741203579642751, 524809997889598596570215095, 1519909683286607213750164699, 4410287473976736173653905686, 12782236936507908045871789830, 24333118428979049659306004167, 57749381278180545253564266316, 142434798658293473709286246084, 361968248929709739049849779326, 939645094741994336577900649934, 2471361764292740378711229991812, 6585895214808300808970279743465, 17632295895642208737130771804459, 47736431416299643940674421855968, 129226500682700254858774586014359, 353334590702522957654435745050125, 963747147519017933472147970368118, 2653982646034947479652625483656989, 7277071010006287960564738886232335, 20144755774949103219581986575145097, 55453261077548172795581666744710370, 154125561350415302927986922099693405, 425510284302619819891323135757631940, 1186438312120639895716812113275058126, 3282732203804026849644189818883596976, 9176399484115727282589702676485671175, 25433832074754655877282986889649088252, 71238698004914687311137593761537083404, 197689788296649019423545466227951946888, 554683834825295015588339317798795304981, 1540559214064834673066353652885412940798, 4328090500021611301919617386893982434030, 12028234907049850854018861954379173681234, 33828250187051794313091496668994354057285, 94032990672314737157764363398513361181046, 264688094000422918092850143628089130278271, 735744000896642910462110273823284222555486, 2072206855903606508838043270336097179033759, 5758858559862506013938937256113822802136323, 16225248738095306622774782221189299294604646]
def pr66 : List Nat := [1, 1, 2, 4, 9, 20, 49, 117, 297, 746, 1947, 5021, 13378, 35237, 95123, 254825, 694987, 1882707, 5184391, 14177587, 39289183, 108337723, 301997384, 837774846, 2347293253, 6546903307, 18417850843, 51617715836, 145722478875, 409964137081, 1161300892672, 3278334740768, 9310829374793, 26368112728163, 75074948034145, 213163076256975, 608292266367669, 1731299502668676, 4950130659874786, 14120307030950710, 40443643490900571, 115585005206000694, 331626609857476351, 949428353968283144, 2727892814267693393, 7822804989060917629, 22507203767845240683, 64636540113649351234, 186204709604922995734, 535467899713794639243, 1544325797516694296115, 4446680712940545850828, 12837993161214142219403, 37007026335009462391464, 106952670126653470663152, 308630891790971026032157, 892757559042241410829894, 2578835276893083831660115, 7466076944865566328644525, 21586152650294023447835757, 62545845853518741368582768, 180990554853741203579642751, 524809997889598596570215095, 1519909683286607213750164699, 4410287473976736173653905686, 12782236936507908045871789830, 37115355365486957705177793997, 70531618214688453299436056146, 167999272531309289801029825744, 413097196675741371233336938646, 1054685227170565508990746758404, 2727006503022898539628665788412, 7212224824697188303217997445135, 19127817617213633978497771214569, 51532755786442492630298343435478, 138762049437335154260994941227539, 378221606017903854619748119849135, 1027926759177224139770470227104548, 2824983411771550273490298288002729, 7727478692938017116377123144472045, 21360640499060544956629448839144187, 58710494604893800463370945588140120, 163009049852208124417063219698275615, 449575491258641813924642275573101750, 1252706426254139065618657407623601656, 3463953480025981192152537110044137186, 9678603130263545862751131821654080065, 26818630519302418206466116149765845342, 75098900121408249636303426289594888124, 208398424877667443864457865888524563068, 584687493344607417525558584569788321971, 1624243283335315845283523581421448908608, 4563511833358099213598443613884366760720, 12688024780986939225697490054712828429114, 35690909439007312659576491093454968898535, 99273249407955086665322688680530302867276, 279532117165134562292908344282130501404031, 777648452310324717660855349388181451344926, 2191220083047608425945488041603591974788949, 6095902024322435416576593594397863860118613, 17184874511863766601104450977569770398349996]
def pr67 : List Nat := [1, 1, 2, 4, 9, 20, 49, 117, 297, 746, 1947, 5021, 13378, 35237, 95123, 254825, 694987, 1882707, 5184391, 14177587, 39289183, 108337723, 301997384, 837774846, 2347293253, 6546903307, 18417850843, 51617715836, 145722478875, 409964137081, 1161300892672, 3278334740768, 9310829374793, 26368112728163, 75074948034145, 213163076256975, 608292266367669, 1731299502668676, 4950130659874786, 14120307030950710, 40443643490900571, 115585005206000694, 331626609857476351, 949428353968283144, 2727892814267693393, 7822804989060917629, 22507203767845240683, 64636540113649351234, 186204709604922995734, 535467899713794639243, 1544325797516694296115, 4446680712940545850828, 12837993161214142219403, 37007026335009462391464, 106952670126653470663152, 308630891790971026032157, 892757559042241410829894, 2578835276893083831660115, 7466076944865566328644525, 21586152650294023447835757, 62545845853518741368582768, 180990554853741203579642751, 524809997889598596570215095, 1519909683286607213750164699, 4410287473976736173653905686, 12782236936507908045871789830, 37115355365486957705177793997, 107646973580175411004613850143, 205114627896796247506207619741, 487327907406715286643692526640, 1203146648632513339811457934392, 3061044701312281158975265934385, 7954531932006927457321553325075, 20946470030122494906051483120422, 55875252364204466681804145333127, 149785309980884780699432746044648, 405909661120557125067810754170897, 1100190356073827246422451392016707, 3011339611061660288127995991661666, 8224007917017501636556991672563911, 22668474276074208885286798766216476, 62241018553325016341160572886516751, 172466970283218338414285151053561140, 475370180738035498199290675089694789, 1322583765608228919298899576626311535, 3656373994344613486296641518642038013, 10204809309993654002981610346514625304, 28276862508367067171858106545650279793, 79119893210040939420279693801392936955, 219607165104274868977540202930509466916, 615781804470163527232022424338244721433, 1711363906567420730164383780436030910849, 4806502476140885970663841244426290808799, 13371609860093417762773304233345355218585, 37606719305415176364166509129849461535027, 104681790996140377763603478244377237180651, 294748081800001086277871502603793788306788, 820750547628103226463851830153369274234910, 2312896641958234309327977065058097076358645, 6441476765315292364996689788097858318636234, 18163536386086756145412921613070972072587507]
def pr68 : List Nat := [1, 1, 2, 4, 9, 20, 49, 117, 297, 746, 1947, 5021, 13378, 35237, 95123, 254825, 694987, 1882707, 5184391, 14177587, 39289183, 108337723, 301997384, 837774846, 2347293253, 6546903307, 18417850843, 51617715836, 145722478875, 409964137081, 1161300892672, 3278334740768, 9310829374793, 26368112728163, 75074948034145, 213163076256975, 608292266367669, 1731299502668676, 4950130659874786, 14120307030950710, 40443643490900571, 115585005206000694, 331626609857476351, 949428353968283144, 2727892814267693393, 7822804989060917629, 22507203767845240683, 64636540113649351234, 186204709604922995734, 535467899713794639243, 1544325797516694296115, 4446680712940545850828, 12837993161214142219403, 37007026335009462391464, 106952670126653470663152, 308630891790971026032157, 892757559042241410829894, 2578835276893083831660115, 7466076944865566328644525, 21586152650294023447835757, 62545845853518741368582768, 180990554853741203579642751, 524809997889598596570215095, 1519909683286607213750164699, 4410287473976736173653905686, 12782236936507908045871789830, 37115355365486957705177793997, 107646973580175411004613850143, 312761601476971658510821469884, 594974880986890697648306376783, 1418440595792864161820685634678, 3491632595632982802993721334957, 8923354694228506156363077976362, 23099409501726003126143760123282, 61149954069633061821030223990134, 162380005889765303786972566511379, 437880812273869222136181067663368, 1180494998364638103031893324223385, 3220928268622261813353979157890087, 8764503371363562375211157814131914, 24108575488629795533706522853429530, 66034174961369657298730151124005642, 182706673351085364035277034320713729, 502801320780603697308541399452384764, 1397397012835794287666763142495644676, 3859041705032824793822905046603215114, 10762893310999953182215231349671343217, 29803036841586705536636776807457624734, 83349254854428616315340181203995840124, 231269393109792230946369209949265311305, 648290908886893615616540619011598747345, 1801547833280918253771760854029049813827, 5059181490931500967471473286737307793978, 14076364187414009790719494841104564341486, 39589345208515208785825707806595189755576, 110238281889007271691874143245968499145199, 310434665633495880726785786908789521535913, 864881946261281044004972858536865317687493, 2437907168470331213889979621539817811210741, 6794379578541716465896468388958352623366058, 19165818989804619356316282199436309356232906]
def pr69 : List Nat := [1, 1, 2, 4, 9, 20, 49, 117, 297, 746, 1947, 5021, 13378, 35237, 95123, 254825, 694987, 1882707, 5184391, 14177587, 39289183, 108337723, 301997384, 837774846, 2347293253, 6546903307, 18417850843, 51617715836, 145722478875, 409964137081, 1161300892672, 3278334740768, 9310829374793, 26368112728163, 75074948034145, 213163076256975, 608292266367669, 1731299502668676, 4950130659874786, 14120307030950710, 40443643490900571, 115585005206000694, 331626609857476351, 949428353968283144, 2727892814267693393, 7822804989060917629, 22507203767845240683, 64636540113649351234, 186204709604922995734, 535467899713794639243, 1544325797516694296115, 4446680712940545850828, 12837993161214142219403, 37007026335009462391464, 106952670126653470663152, 308630891790971026032157, 892757559042241410829894, 2578835276893083831660115, 7466076944865566328644525, 21586152650294023447835757, 62545845853518741368582768, 180990554853741203579642751, 524809997889598596570215095, 1519909683286607213750164699, 4410287473976736173653905686, 12782236936507908045871789830, 37115355365486957705177793997, 107646973580175411004613850143, 312761601476971658510821469884, 907736482463862356159127846667, 1731202197269835820331507104562, 4117155798586926120015364274725, 10174401100136392790406363855898, 25914263915018748052741153352238, 67405186099172494991246653387814, 177705324362136915054002818535695, 474473919646674906181947179639796, 1273385194003298685609607300778933, 3454248423324082670603051974423551, 9373450209439226194331727215996062, 25678951489645670231089357453717094, 70218299665928584146287920748113794, 193727453902329414366222850455016237, 532552142597897672381066270132160496, 1477096487932163590546783223558834976, 4076406952158500895856365327493486622, 11351731767431858062495164506772239205, 31424515273429504110275353038531005378, 87783459669627710500411643034744130032, 243557540905594040723414382159866776077, 682174788632742162035136587918344381477, 1896001018742614230884170273625052597283, 5321205293443584271226741333002869531842, 14810507384358380199614166104850820234138, 41636965171527410621275479583065350261964, 115998678414427944197664784579694027657411, 326578705102946481693623000472189665418937, 910458342125420215311289754140932956387993, 2566128208531909514964461954941259900379345, 7157589905530447966576329708106664987656106, 20191156213504811764342039123831201215263818]
def pr70 : List Nat := [1, 1, 2, 4, 9, 20, 49, 117, 297, 746, 1947, 5021, 13378, 35237, 95123, 254825, 694987, 1882707, 5184391, 14177587, 39289183, 108337723, 301997384, 837774846, 2347293253, 6546903307, 18417850843, 51617715836, 145722478875, 409964137081, 1161300892672, 3278334740768, 9310829374793, 26368112728163, 75074948034145, 213163076256975, 608292266367669, 1731299502668676, 4950130659874786, 14120307030950710, 40443643490900571, 115585005206000694, 331626609857476351, 949428353968283144, 2727892814267693393, 7822804989060917629, 22507203767845240683, 64636540113649351234, 186204709604922995734, 535467899713794639243, 1544325797516694296115, 4446680712940545850828, 12837993161214142219403, 37007026335009462391464, 106952670126653470663152, 308630891790971026032157, 892757559042241410829894, 2578835276893083831660115, 7466076944865566328644525, 21586152650294023447835757, 62545845853518741368582768, 180990554853741203579642751, 524809997889598596570215095, 1519909683286607213750164699, 4410287473976736173653905686, 12782236936507908045871789830, 37115355365486957705177793997, 107646973580175411004613850143, 312761601476971658510821469884, 907736482463862356159127846667, 2638938679733698176490634951229, 5024892281050788476174492121392, 11989874065064117502724619549232, 29545209844874197477377664738906, 75574814441347256196678804007817, 195860054011414162177185375469035, 518953007287404161633744444126479, 1379590362451570581280225258838972, 3723846158615849790382312944883650, 10050621625357267512026436589609644, 27446314421002810238531179371177743, 74776044544379637036562901666228801, 205871152564730964966919662787727363, 564538053030476790225045458065165575, 1563443105353573569451707941717340017, 4307720901302354620764615081020404897, 11982596822169970369815128291543797534, 33133517103119595015252636149345892947, 92489520519685016324921820010853904829, 256427053858799423633885403050110828606, 717839013408041141033083739006440084538, 1994343122336778508335865210198848516524, 5595339336509032577322874230417856650970, 15570986176163124185610576588086577772420, 43767688892316787546208483371911217899715, 121941541393355152165195790497273998885180, 343297260241715383707044359525070246109218, 957313625931210059550529039727784742106605, 2698405818921816505110768188715616047038970, 7529729309260687586185466041287059324615133, 21245311400901036392530571489446561455188042]
def pr71 : List Nat := [1, 1, 2, 4, 9, 20, 49, 117, 297, 746, 1947, 5021, 13378, 35237, 95123, 254825, 694987, 1882707, 5184391, 14177587, 39289183, 108337723, 301997384, 837774846, 2347293253, 6546903307, 18417850843, 51617715836, 145722478875, 409964137081, 1161300892672, 3278334740768, 9310829374793, 26368112728163, 75074948034145, 213163076256975, 608292266367669, 1731299502668676, 4950130659874786, 14120307030950710, 40443643490900571, 115585005206000694, 331626609857476351, 949428353968283144, 2727892814267693393, 7822804989060917629, 22507203767845240683, 64636540113649351234, 186204709604922995734, 535467899713794639243, 1544325797516694296115, 4446680712940545850828, 12837993161214142219403, 37007026335009462391464, 106952670126653470663152, 308630891790971026032157, 892757559042241410829894, 2578835276893083831660115, 7466076944865566328644525, 21586152650294023447835757, 62545845853518741368582768, 180990554853741203579642751, 524809997889598596570215095, 1519909683286607213750164699, 4410287473976736173653905686, 12782236936507908045871789830, 37115355365486957705177793997, 107646973580175411004613850143, 312761601476971658510821469884, 907736482463862356159127846667, 2638938679733698176490634951229, 7663830960784486652665127072621, 14628812744797815679215254500461, 34823087204341593830358934641364, 86130569160282048902641343812733, 219610502129017445765601090030096, 571731780882078125163557143151059, 1508898357758521791928266371449193, 4032601984144692477031717234177443, 10834386413238175870444155170124657, 29414962676084149078193193044794577, 79914058153821147386190167916271664, 219121263675673863511079140877848172, 599841774687954204430137172442707137, 1656431387611349892096708445493796290, 4558744665334663192406933749486161064, 12655064371233110007639354342990727459, 34967545179331678709837333062195681970, 97457868844590408017687973867977401732, 270108343799562690856799862475547895145, 755252796127630783762021070712729988961, 2098024867050614167258772064583880772431, 5881235944208007684133121751858222562537, 16367938753979114851556318643856703357356, 45978525338334129857028405888619310885449, 128135904351374789731610661135979814643117, 360574136611034146178050767141801169923521, 1005917204918368659525914643445883043642652, 2834621805800939549738253159343364288001414, 7914281995270601809334748614602863932402508, 22327181619547735388332457888104936960610591]
def pr72 : List Nat := [1, 1, 2, 4, 9, 20, 49, 117, 297, 746, 1947, 5021, 13378, 35237, 95123, 254825, 694987, 1882707, 5184391, 14177587, 39289183, 108337723, 301997384, 837774846, 2347293253, 6546903307, 18417850843, 51617715836, 145722478875, 409964137081, 1161300892672, 3278334740768, 9310829374793, 26368112728163, 75074948034145, 213163076256975, 608292266367669, 1731299502668676, 4950130659874786, 14120307030950710, 40443643490900571, 115585005206000694, 331626609857476351, 949428353968283144, 2727892814267693393, 7822804989060917629, 22507203767845240683, 64636540113649351234, 186204709604922995734, 535467899713794639243, 1544325797516694296115, 4446680712940545850828, 12837993161214142219403, 37007026335009462391464, 106952670126653470663152, 308630891790971026032157, 892757559042241410829894, 2578835276893083831660115, 7466076944865566328644525, 21586152650294023447835757, 62545845853518741368582768, 180990554853741203579642751, 524809997889598596570215095, 1519909683286607213750164699, 4410287473976736173653905686, 12782236936507908045871789830, 37115355365486957705177793997, 107646973580175411004613850143, 312761601476971658510821469884, 907736482463862356159127846667, 2638938679733698176490634951229, 7663830960784486652665127072621, 22292643705582302331880381573082, 42486918165126080483024061713985, 101458231081851022207971597957975, 250265825972155392376261598320580, 640706259529138505037543286804648, 1662174976974211524981568912901613, 4408129701223132323012308460735872, 11731054635649960808805975037621314, 31691120471437141614034735785363014, 85631276050566374429078352712446930, 234042742556321259023818143288241259, 638321869942053111913168775474337178, 1758958118204724754536062515471320028, 4828795076899826148586894832144107241, 13384070963715812731500819225519654842, 36920480903913585521102724068476328295, 102784131732533136042963752536797052659, 284537091996248369369179065871060960192, 794985092386243229303718281521882647772, 2206679497250429815027270685522020317958, 6182341601307335203790739367132683321180, 17198220749727408429229950392410118139339, 48292982239909251413916190892578430908913, 134556469154316045076236243458815303734483, 378563395317416079284920174387752084249634, 1056091565179817602506545324241200697700299, 2975773101322633607175363818194539095070917, 8309871444019514301009151975904245246128664, 23443974064832223698003171330394141223991966]
def pr73 : List Nat := [1, 1, 2, 4, 9, 20, 49, 117, 297, 746, 1947, 5021, 13378, 35237, 95123, 254825, 694987, 1882707, 5184391, 14177587, 39289183, 108337723, 301997384, 837774846, 2347293253, 6546903307, 18417850843, 51617715836, 145722478875, 409964137081, 1161300892672, 3278334740768, 9310829374793, 26368112728163, 75074948034145, 213163076256975, 608292266367669, 1731299502668676, 4950130659874786, 14120307030950710, 40443643490900571, 115585005206000694, 331626609857476351, 949428353968283144, 2727892814267693393, 7822804989060917629, 22507203767845240683, 64636540113649351234, 186204709604922995734, 535467899713794639243, 1544325797516694296115, 4446680712940545850828, 12837993161214142219403, 37007026335009462391464, 106952670126653470663152, 308630891790971026032157, 892757559042241410829894, 2578835276893083831660115, 7466076944865566328644525, 21586152650294023447835757, 62545845853518741368582768, 180990554853741203579642751, 524809997889598596570215095, 1519909683286607213750164699, 4410287473976736173653905686, 12782236936507908045871789830, 37115355365486957705177793997, 107646973580175411004613850143, 312761601476971658510821469884, 907736482463862356159127846667, 2638938679733698176490634951229, 7663830960784486652665127072621, 22292643705582302331880381573082, 64779561870708382814904443287067, 123750874787433324539851979531057, 294851113383319997040022361466744, 729876834351467714365064813096976, 1862808770324452245968492347059351, 4853982575334778369649916092197512, 12823394177223493623068113734702332, 34299359784990270986864740429413608, 92252191231124318221646826039652284, 250673054760685656563400907941760431, 681725647236821854553339878397127832, 1870889482250453494544433911349764750, 5127026064393106189182790576828798237, 14169596849969416318769288231010345276, 39041024051119690865818181604852607381, 108464854664808146234685170771157673309, 300030189567259896919905616619392500126, 836955608739248968980065799072195140746, 2322253278643857352995950348826072481020, 6498397496903230680761276350478250234314, 18074080507829829627108525438144764711345, 50708116498622320437649701740577292881199, 141288789235845966577161218494807872551971, 397239611464793161961336701950562094545006, 1108418937341463859206374310710761602716045, 3121720884120483116672625299843771503053091, 8720454030685071951818255927435195225936790, 24594669412860165026680813029976738566718518]
def pr74 : List Nat := [1, 1, 2, 4, 9, 20, 49, 117, 297, 746, 1947, 5021, 13378, 35237, 95123, 254825, 694987, 1882707, 5184391, 14177587, 39289183, 108337723, 301997384, 837774846, 2347293253, 6546903307, 18417850843, 51617715836, 145722478875, 409964137081, 1161300892672, 3278334740768, 9310829374793, 26368112728163, 75074948034145, 213163076256975, 608292266367669, 1731299502668676, 4950130659874786, 14120307030950710, 40443643490900571, 115585005206000694, 331626609857476351, 949428353968283144, 2727892814267693393, 7822804989060917629, 22507203767845240683, 64636540113649351234, 186204709604922995734, 535467899713794639243, 1544325797516694296115, 4446680712940545850828, 12837993161214142219403, 37007026335009462391464, 106952670126653470663152, 308630891790971026032157, 892757559042241410829894, 2578835276893083831660115, 7466076944865566328644525, 21586152650294023447835757, 62545845853518741368582768, 180990554853741203579642751, 524809997889598596570215095, 1519909683286607213750164699, 4410287473976736173653905686, 12782236936507908045871789830, 37115355365486957705177793997, 107646973580175411004613850143, 312761601476971658510821469884, 907736482463862356159127846667, 2638938679733698176490634951229, 7663830960784486652665127072621, 22292643705582302331880381573082, 64779561870708382814904443287067, 188530436658141707354756422818124, 359630675254028379854926804753811, 859435958092884479994873699671110, 2121927017807285777228110120207619, 5436998632171153814984056081781115, 14118985414637661279366202600443672, 37473558316654981744795058150479891, 99831399969997199010990645904239123, 269912584636286046259427527598019330, 730051200392370308133258593089279814, 1997015289212722715885052862429684199, 5452284244545932979296425786573161644, 15036217828675753064067079873304727602, 41323661472757842151066969472958987260, 114626880928635539733187326129953347550, 316537641420963160570713641380019348401, 881976562105086975827447793398943973875, 2444214213234773120280250648533736531389, 6834240074449674384251421612115730805511, 18992498382073680476096138079533723078674, 53253252559620404429698537540395989777460, 148306859465856133168340296343111346680412, 416802869686413239798308400033232689577734, 1162689624811644046530039927190299892432727, 3273777512631892961984591647411225014312042, 9144559558522423769701775796080288118567359, 25787769721069762072115467543735891203665999]
def pr75 : List Nat := [1, 1, 2, 4, 9, 20, 49, 117, 297, 746, 1947, 5021, 13378, 35237, 95123, 254825, 694987, 1882707, 5184391, 14177587, 39289183, 108337723, 301997384, 837774846, 2347293253, 6546903307, 18417850843, 51617715836, 145722478875, 409964137081, 1161300892672, 3278334740768, 9310829374793, 26368112728163, 75074948034145, 213163076256975, 608292266367669, 1731299502668676, 4950130659874786, 14120307030950710, 40443643490900571, 115585005206000694, 331626609857476351, 949428353968283144, 2727892814267693393, 7822804989060917629, 22507203767845240683, 64636540113649351234, 186204709604922995734, 535467899713794639243, 1544325797516694296115, 4446680712940545850828, 12837993161214142219403, 37007026335009462391464, 106952670126653470663152, 308630891790971026032157, 892757559042241410829894, 2578835276893083831660115, 7466076944865566328644525, 21586152650294023447835757, 62545845853518741368582768, 180990554853741203579642751, 524809997889598596570215095, 1519909683286607213750164699, 4410287473976736173653905686, 12782236936507908045871789830, 37115355365486957705177793997, 107646973580175411004613850143, 312761601476971658510821469884, 907736482463862356159127846667, 2638938679733698176490634951229, 7663830960784486652665127072621, 22292643705582302331880381573082, 64779561870708382814904443287067, 188530436658141707354756422818124, 548161111912170087209683227571935, 1047966394751026187349630122489234, 2498987891123569191937622965843867, 6191120378803720644403081773053611, 15815759344560936645559010405806788, 41244167049817815891890186606842371, 109069391366246142671373710622327199, 291970645725288626019934029067739838, 786044740079838395217621250666262642, 2137658994959696429571701153852004703, 5819353004719334883516136541800049072, 15982829151136282576695311872274528206, 43845821654370461912058900897419850132, 121270127925158479075246878200795582938, 334471222147195574199420136587747757653, 930018830626497936404123598843572422175, 2575240415816505051049610750558836075777, 7189187647259014383680173012650372587179, 19969913881110220420430771085184199781158, 55926159227489197744049136588708727964248, 155714066292787771148533767359637996233104, 437227827910152041784455064100973486869386, 1219625323486780544452469926838571248220343, 3431723570169480385509899776905189734420946, 9587095780475223666893496024819685829884731, 27022060260297104044470948590463357478802067]
def pr76 : List Nat := [1, 1, 2, 4, 9, 20, 49, 117, 297, 746, 1947, 5021, 13378, 35237, 95123, 254825, 694987, 1882707, 5184391, 14177587, 39289183, 108337723, 301997384, 837774846, 2347293253, 6546903307, 18417850843, 51617715836, 145722478875, 409964137081, 1161300892672, 3278334740768, 9310829374793, 26368112728163, 75074948034145, 213163076256975, 608292266367669, 1731299502668676, 4950130659874786, 14120307030950710, 40443643490900571, 115585005206000694, 331626609857476351, 949428353968283144, 2727892814267693393, 7822804989060917629, 22507203767845240683, 64636540113649351234, 186204709604922995734, 535467899713794639243, 1544325797516694296115, 4446680712940545850828, 12837993161214142219403, 37007026335009462391464, 106952670126653470663152, 308630891790971026032157, 892757559042241410829894, 2578835276893083831660115, 7466076944865566328644525, 21586152650294023447835757, 62545845853518741368582768, 180990554853741203579642751, 524809997889598596570215095, 1519909683286607213750164699, 4410287473976736173653905686, 12782236936507908045871789830, 37115355365486957705177793997, 107646973580175411004613850143, 312761601476971658510821469884, 907736482463862356159127846667, 2638938679733698176490634951229, 7663830960784486652665127072621, 22292643705582302331880381573082, 64779561870708382814904443287067, 188530436658141707354756422818124, 548161111912170087209683227571935, 1596127506663196274559313350061169, 3047149003035739279147306193415802, 7287442602628060818822448228197481, 18008403792209616994397743316094528, 46177617057027346676777335654989786, 120032613604489544415567375173765899, 318830540208984960293208507218764653, 850179590173562295421154188292179037, 2300462845197610945472977072440869398, 6228281194205813768574560229568712582, 17050098836029277736492565116357085651, 46598138597281467919938720383058535767, 128603427280319490501938020419252929368, 353786775247644711562427744477700031248, 982161560074919291609770296499897595180, 2714925571159523793522818279024854412152, 7570152493943517736079769129930908977024, 21001940643635046428811052165516474809203, 58768040762636645134648233426583619630833, 163485668146939298918746638560979903453949, 458764630149552772267962267801077886748491, 1279011850188493227689478431265005504824348, 3597266791977486989610275971100590776238986, 10046331371590630727231394960507546628431741, 28308755139845518818766659626810224076456622]
def pr77 : List Nat := [1, 1, 2, 4, 9, 20, 49, 117, 297, 746, 1947, 5021, 13378, 35237, 95123, 254825, 694987, 1882707, 5184391, 14177587, 39289183, 108337723, 301997384, 837774846, 2347293253, 6546903307, 18417850843, 51617715836, 145722478875, 409964137081, 1161300892672, 3278334740768, 9310829374793, 26368112728163, 75074948034145, 213163076256975, 608292266367669, 1731299502668676, 4950130659874786, 14120307030950710, 40443643490900571, 115585005206000694, 331626609857476351, 949428353968283144, 2727892814267693393, 7822804989060917629, 22507203767845240683, 64636540113649351234, 186204709604922995734, 535467899713794639243, 1544325797516694296115, 4446680712940545850828, 12837993161214142219403, 37007026335009462391464, 106952670126653470663152, 308630891790971026032157, 892757559042241410829894, 2578835276893083831660115, 7466076944865566328644525, 21586152650294023447835757, 62545845853518741368582768, 180990554853741203579642751, 524809997889598596570215095, 1519909683286607213750164699, 4410287473976736173653905686, 12782236936507908045871789830, 37115355365486957705177793997, 107646973580175411004613850143, 312761601476971658510821469884, 907736482463862356159127846667, 2638938679733698176490634951229, 7663830960784486652665127072621, 22292643705582302331880381573082, 64779561870708382814904443287067, 188530436658141707354756422818124, 548161111912170087209683227571935, 1596127506663196274559313350061169, 4643276509698935553706619543476971, 8883570109291257093381761578258650, 21200658805536009543516370016216866, 52562127083680131775014589055234462, 134397761164458310886601195324316420, 350753090342248885784394774219988033, 928389838000058912874560542445176318, 2487209763477204909596416734398026171, 6702331063684783062118676294536879775, 18240809956000022157313812875502717725, 49705798852754711066505703475627631810, 136617583491275398996500332749910058917, 375139769031784951323482238474818350130, 1038404305027210338736416821016003007233, 2866754007975847012747723842822722990939, 7976885685828966726744346154360246367449, 22111228511108381218078205672735436469006, 61773081192323991403134974585937232935316, 171760617227336413715805471659216877467028, 481393866738363317148602819481831565567694, 1341722395889117265485557537829901834859275, 3770187611667045001898114807889719736417173, 10528357703133358571226853345062295906413637, 29645950615936642051553362086523464026011596]
def pr78 : List Nat := [1, 1, 2, 4, 9, 20, 49, 117, 297, 746, 1947, 5021, 13378, 35237, 95123, 254825, 694987, 1882707, 5184391, 14177587, 39289183, 108337723, 301997384, 837774846, 2347293253, 6546903307, 18417850843, 51617715836, 145722478875, 409964137081, 1161300892672, 3278334740768, 9310829374793, 26368112728163, 75074948034145, 213163076256975, 608292266367669, 1731299502668676, 4950130659874786, 14120307030950710, 40443643490900571, 115585005206000694, 331626609857476351, 949428353968283144, 2727892814267693393, 7822804989060917629, 22507203767845240683, 64636540113649351234, 186204709604922995734, 535467899713794639243, 1544325797516694296115, 4446680712940545850828, 12837993161214142219403, 37007026335009462391464, 106952670126653470663152, 308630891790971026032157, 892757559042241410829894, 2578835276893083831660115, 7466076944865566328644525, 21586152650294023447835757, 62545845853518741368582768, 180990554853741203579642751, 524809997889598596570215095, 1519909683286607213750164699, 4410287473976736173653905686, 12782236936507908045871789830, 37115355365486957705177793997, 107646973580175411004613850143, 312761601476971658510821469884, 907736482463862356159127846667, 2638938679733698176490634951229, 7663830960784486652665127072621, 22292643705582302331880381573082, 64779561870708382814904443287067, 188530436658141707354756422818124, 548161111912170087209683227571935, 1596127506663196274559313350061169, 4643276509698935553706619543476971, 13526846618990192647088381121735621, 25843935315234945097222989559693837, 61848680103078002882427828142188404, 152970867203254053101427673498224304, 392542578929539305767754350111280772, 1021255368194037623948692933314715738, 2714730312452452751728041092028397750, 7245594415319558521902350781123685382, 19619863079380606016764678879915378112, 53169683128990116989570841655061452176, 145658042855659226519567121001059721454, 398453660386983306738643175202616221521, 1100522058173962698573903977268637925271, 3030369142348108404853683995676221018066, 8418568077261058573419580925194406279882, 23294451447692412470551494997901955604081, 65000098003970125526798876982599662579693, 180502546415082167575317800220057775107525, 505466427685757891342819434483457682727355, 1407552852570430268105626308883446873708252, 3952618152176207755772900511444762906321866, 11031399707453528664639172716429890447490670, 31048207975054371216357352692136783532255460]
def pr79 : List Nat := [1, 1, 2, 4, 9, 20, 49, 117, 297, 746, 1947, 5021, 13378, 35237, 95123, 254825, 694987, 1882707, 5184391, 14177587, 39289183, 108337723, 301997384, 837774846, 2347293253, 6546903307, 18417850843, 51617715836, 145722478875, 409964137081, 1161300892672, 3278334740768, 9310829374793, 26368112728163, 75074948034145, 213163076256975, 608292266367669, 1731299502668676, 4950130659874786, 14120307030950710, 40443643490900571, 115585005206000694, 331626609857476351, 949428353968283144, 2727892814267693393, 7822804989060917629, 22507203767845240683, 64636540113649351234, 186204709604922995734, 535467899713794639243, 1544325797516694296115, 4446680712940545850828, 12837993161214142219403, 37007026335009462391464, 106952670126653470663152, 308630891790971026032157, 892757559042241410829894, 2578835276893083831660115, 7466076944865566328644525, 21586152650294023447835757, 62545845853518741368582768, 180990554853741203579642751, 524809997889598596570215095, 1519909683286607213750164699, 4410287473976736173653905686, 12782236936507908045871789830, 37115355365486957705177793997, 107646973580175411004613850143, 312761601476971658510821469884, 907736482463862356159127846667, 2638938679733698176490634951229, 7663830960784486652665127072621, 22292643705582302331880381573082, 64779561870708382814904443287067, 188530436658141707354756422818124, 548161111912170087209683227571935, 1596127506663196274559313350061169, 4643276509698935553706619543476971, 13526846618990192647088381121735621, 39370781934225137744311370681429458, 75375526722068195529516209263924025, 180024560441234438395604435741695546, 446649965405500076356107874598223256, 1142996987764949357772488363410336327, 2985267244832256604669808714463110170, 7908409899650077961609681456088730811, 21202504133802458556474019471158445769, 57187156574830204205756090848216931613, 155749070433425910234295053317874494720, 424790430754157211822524253246635475608, 1168440355047912455854934738880872478312, 3211331296416959202086432358322800155804, 8895213571574415991725034210781004357059, 24581165678630616565720483075344813080464, 68447076693654301368093173701945942201018, 189903528966274304592539812950709449139452, 530933516503257059970841259240017188533402, 1477681314440303451953457488175542931600063, 4144396196952597064173756331487327264048393, 11562858459679965618755882539495506538578313, 32513675737126017247074250482621806519386443]
def pr80 : List Nat := [1, 1, 2, 4, 9, 20, 49, 117, 297, 746, 1947, 5021, 13378, 35237, 95123, 254825, 694987, 1882707, 5184391, 14177587, 39289183, 108337723, 301997384, 837774846, 2347293253, 6546903307, 18417850843, 51617715836, 145722478875, 409964137081, 1161300892672, 3278334740768, 9310829374793, 26368112728163, 75074948034145, 213163076256975, 608292266367669, 1731299502668676, 4950130659874786, 14120307030950710, 40443643490900571, 115585005206000694, 331626609857476351, 949428353968283144, 2727892814267693393, 7822804989060917629, 22507203767845240683, 64636540113649351234, 186204709604922995734, 535467899713794639243, 1544325797516694296115, 4446680712940545850828, 12837993161214142219403, 37007026335009462391464, 106952670126653470663152, 308630891790971026032157, 892757559042241410829894, 2578835276893083831660115, 7466076944865566328644525, 21586152650294023447835757, 62545845853518741368582768, 180990554853741203579642751, 524809997889598596570215095, 1519909683286607213750164699, 4410287473976736173653905686, 12782236936507908045871789830, 37115355365486957705177793997, 107646973580175411004613850143, 312761601476971658510821469884, 907736482463862356159127846667, 2638938679733698176490634951229, 7663830960784486652665127072621, 22292643705582302331880381573082, 64779561870708382814904443287067, 188530436658141707354756422818124, 548161111912170087209683227571935, 1596127506663196274559313350061169, 4643276509698935553706619543476971, 13526846618990192647088381121735621, 39370781934225137744311370681429458, 114746308656293333273827579945353483, 219395342375459576139915806423125004, 525391529273950351844730615961082172, 1300480115501849908749733846136054159, 3339604282240282844368611050595975292, 8695825538334580716495908869717319971, 23131672448579490305945276634548489211, 61793538061134545321840521217944178199, 167442192667890776144355530410259043746, 454161034077089164579780535774981851276, 1245095267473848799043108977597615633038, 3409011992508703618700619750514257464422, 9421915892290479884468431727757167646183, 25968473921646907744416782844046342892010, 72192143583583599145745304215275556534352, 199936188472663225318233957984604710774302, 558295698127378385776346985815791803260448, 1551804961183342658360636715937064942182869, 4348509724475356460269124502845794013238471, 12121041145810470786712840752420721963736159, 34060521593392882647110707134305323196339257]
def pr81 : List Nat := [1, 1, 2, 4, 9, 20, 49, 117, 297, 746, 1947, 5021, 13378, 35237, 95123, 254825, 694987, 1882707, 5184391, 14177587, 39289183, 108337723, 301997384, 837774846, 2347293253, 6546903307, 18417850843, 51617715836, 145722478875, 409964137081, 1161300892672, 3278334740768, 9310829374793, 26368112728163, 75074948034145, 213163076256975, 608292266367669, 1731299502668676, 4950130659874786, 14120307030950710, 40443643490900571, 115585005206000694, 331626609857476351, 949428353968283144, 2727892814267693393, 7822804989060917629, 22507203767845240683, 64636540113649351234, 186204709604922995734, 535467899713794639243, 1544325797516694296115, 4446680712940545850828, 12837993161214142219403, 37007026335009462391464, 106952670126653470663152, 308630891790971026032157, 892757559042241410829894, 2578835276893083831660115, 7466076944865566328644525, 21586152650294023447835757, 62545845853518741368582768, 180990554853741203579642751, 524809997889598596570215095, 1519909683286607213750164699, 4410287473976736173653905686, 12782236936507908045871789830, 37115355365486957705177793997, 107646973580175411004613850143, 312761601476971658510821469884, 907736482463862356159127846667, 2638938679733698176490634951229, 7663830960784486652665127072621, 22292643705582302331880381573082, 64779561870708382814904443287067, 188530436658141707354756422818124, 548161111912170087209683227571935, 1596127506663196274559313350061169, 4643276509698935553706619543476971, 13526846618990192647088381121735621, 39370781934225137744311370681429458, 114746308656293333273827579945353483, 334141651031752909413743386368478487, 640137837930243685118558195906435655, 1529972732814436575297389006026761125, 3798589516865456177463921370377389224, 9728542316241220715960357089225501318, 25426598621705356971421828233455558871, 67416107185292918652258072635266498866, 180867510780677096137393357263865401257, 488240687748008284562107327018751835727, 1330696013731443625665384352236849331356, 3632423055462506738584762048667860695823, 9998057108053728710836320006662787484326, 27503550038850799956954048208555281787584, 76235459261705407330315166649809977214823, 210851201590975816059240258871746570137711, 587535926230718334427850098875366504565923, 1631552153997453993172614324240546323272590, 4564543403006720512877092604401970633156952, 12715930875691380037097672993441193052820012, 35687347367296334477120392471980027447324778]
def pr82 : List Nat := [1, 1, 2, 4, 9, 20, 49, 117, 297, 746, 1947, 5021, 13378, 35237, 95123, 254825, 694987, 1882707, 5184391, 14177587, 39289183, 108337723, 301997384, 837774846, 2347293253, 6546903307, 18417850843, 51617715836, 145722478875, 409964137081, 1161300892672, 3278334740768, 9310829374793, 26368112728163, 75074948034145, 213163076256975, 608292266367669, 1731299502668676, 4950130659874786, 14120307030950710, 40443643490900571, 115585005206000694, 331626609857476351, 949428353968283144, 2727892814267693393, 7822804989060917629, 22507203767845240683, 64636540113649351234, 186204709604922995734, 535467899713794639243, 1544325797516694296115, 4446680712940545850828, 12837993161214142219403, 37007026335009462391464, 106952670126653470663152, 308630891790971026032157, 892757559042241410829894, 2578835276893083831660115, 7466076944865566328644525, 21586152650294023447835757, 62545845853518741368582768, 180990554853741203579642751, 524809997889598596570215095, 1519909683286607213750164699, 4410287473976736173653905686, 12782236936507908045871789830, 37115355365486957705177793997, 107646973580175411004613850143, 312761601476971658510821469884, 907736482463862356159127846667, 2638938679733698176490634951229, 7663830960784486652665127072621, 22292643705582302331880381573082, 64779561870708382814904443287067, 188530436658141707354756422818124, 548161111912170087209683227571935, 1596127506663196274559313350061169, 4643276509698935553706619543476971, 13526846618990192647088381121735621, 39370781934225137744311370681429458, 114746308656293333273827579945353483, 334141651031752909413743386368478487, 974279488961996594532301582274914142, 1864114383846189484711132392395239612, 4466872818928961996291408143114346198, 11065108920368232353615330634699415266, 28433873480991133156145518710771865254, 74098940205927976840532940362636068606, 197240451681232988698666783195920847120, 527335260918723374963515303223863818706, 1429936084087874239761266137988287441995, 3881692727132194409007414614898745647125, 10648630902612551625464878379922215098515, 29181275268681231315120453751511412270811, 80705606269208197752452225672647482413909, 222625350948381693328252334577212646584130, 619320482501811766430013611016895283684824, 1716699800221620428313971482671893853722365, 4796767506632325372131821879264040391401621, 13345021701080418461921293563160832079644321, 37419668335630494974908818960578289999021195]
def pr83 : List Nat := [1, 1, 2, 4, 9, 20, 49, 117, 297, 746, 1947, 5021, 13378, 35237, 95123, 254825, 694987, 1882707, 5184391, 14177587, 39289183, 108337723, 301997384, 837774846, 2347293253, 6546903307, 18417850843, 51617715836, 145722478875, 409964137081, 1161300892672, 3278334740768, 9310829374793, 26368112728163, 75074948034145, 213163076256975, 608292266367669, 1731299502668676, 4950130659874786, 14120307030950710, 40443643490900571, 115585005206000694, 331626609857476351, 949428353968283144, 2727892814267693393, 7822804989060917629, 22507203767845240683, 64636540113649351234, 186204709604922995734, 535467899713794639243, 1544325797516694296115, 4446680712940545850828, 12837993161214142219403, 37007026335009462391464, 106952670126653470663152, 308630891790971026032157, 892757559042241410829894, 2578835276893083831660115, 7466076944865566328644525, 21586152650294023447835757, 62545845853518741368582768, 180990554853741203579642751, 524809997889598596570215095, 1519909683286607213750164699, 4410287473976736173653905686, 12782236936507908045871789830, 37115355365486957705177793997, 107646973580175411004613850143, 312761601476971658510821469884, 907736482463862356159127846667, 2638938679733698176490634951229, 7663830960784486652665127072621, 22292643705582302331880381573082, 64779561870708382814904443287067, 188530436658141707354756422818124, 548161111912170087209683227571935, 1596127506663196274559313350061169, 4643276509698935553706619543476971, 13526846618990192647088381121735621, 39370781934225137744311370681429458, 114746308656293333273827579945353483, 334141651031752909413743386368478487, 974279488961996594532301582274914142, 2838393872808186079243433974670153754, 5441152307890958590823709725389260340, 13013667898292225542679933799249243550, 32330991436839119534274725039871521822, 82867455606585946191323654603110295884, 216726041460472920589312814841419129960, 575074955877861208095598080755334611664, 1543926784296427841321545423114452396609, 4171053735353907397583508184834395147299, 11375443401378201084985975360299301048447, 31078197433690238684674844932200670105285, 85597463583286382653598911917249826320891, 235659261951715283769905465144886447975806, 653651168854365640431548321871516433306478, 1809376188050152430375667606082630511651831, 5045038277407066154333515629967245387636771, 14022133280275649589165514242921327834450475, 39253951149455668697410944875638346778563589]
def pr84 : List Nat := [1, 1, 2, 4, 9, 20, 49, 117, 297, 746, 1947, 5021, 13378, 35237, 95123, 254825, 694987, 1882707, 5184391, 14177587, 39289183, 108337723, 301997384, 837774846, 2347293253, 6546903307, 18417850843, 51617715836, 145722478875, 409964137081, 1161300892672, 3278334740768, 9310829374793, 26368112728163, 75074948034145, 213163076256975, 608292266367669, 1731299502668676, 4950130659874786, 14120307030950710, 40443643490900571, 115585005206000694, 331626609857476351, 949428353968283144, 2727892814267693393, 7822804989060917629, 22507203767845240683, 64636540113649351234, 186204709604922995734, 535467899713794639243, 1544325797516694296115, 4446680712940545850828, 12837993161214142219403, 37007026335009462391464, 106952670126653470663152, 308630891790971026032157, 892757559042241410829894, 2578835276893083831660115, 7466076944865566328644525, 21586152650294023447835757, 62545845853518741368582768, 180990554853741203579642751, 524809997889598596570215095, 1519909683286607213750164699, 4410287473976736173653905686, 12782236936507908045871789830, 37115355365486957705177793997, 107646973580175411004613850143, 312761601476971658510821469884, 907736482463862356159127846667, 2638938679733698176490634951229, 7663830960784486652665127072621, 22292643705582302331880381573082, 64779561870708382814904443287067, 188530436658141707354756422818124, 548161111912170087209683227571935, 1596127506663196274559313350061169, 4643276509698935553706619543476971, 13526846618990192647088381121735621, 39370781934225137744311370681429458, 114746308656293333273827579945353483, 334141651031752909413743386368478487, 974279488961996594532301582274914142, 2838393872808186079243433974670153754, 8279546180699144670067143700059414094, 15852061771100411621923367773919397304, 38007779182455491692761592989211829330, 94221031097818690508297390501790910900, 242271586315746595302503720613450513746, 631842833334024929680466760248737686744, 1683008084064028959204473687873289930555, 4503145818472465168854989959870803136517, 12218446381602232350521275250776336713385, 33195639262805145499790446677304604805769, 91123816453643920949885877865932615679929, 249910837587085186073786747131705289974640, 691623202084793553799666981584653750227490, 1909392672946294483249968489048082719481529, 5315034817770199238749388799939794423178513, 14745426998913995606808722305516649764813525, 41226597991937011516066101323392432925594787]
def pr85 : List Nat := [1, 1, 2, 4, 9, 20, 49, 117, 297, 746, 1947, 5021, 13378, 35237, 95123, 254825, 694987, 1882707, 5184391, 14177587, 39289183, 108337723, 301997384, 837774846, 2347293253, 6546903307, 18417850843, 51617715836, 145722478875, 409964137081, 1161300892672, 3278334740768, 9310829374793, 26368112728163, 75074948034145, 213163076256975, 608292266367669, 1731299502668676, 4950130659874786, 14120307030950710, 40443643490900571, 115585005206000694, 331626609857476351, 949428353968283144, 2727892814267693393, 7822804989060917629, 22507203767845240683, 64636540113649351234, 186204709604922995734, 535467899713794639243, 1544325797516694296115, 4446680712940545850828, 12837993161214142219403, 37007026335009462391464, 106952670126653470663152, 308630891790971026032157, 892757559042241410829894, 2578835276893083831660115, 7466076944865566328644525, 21586152650294023447835757, 62545845853518741368582768, 180990554853741203579642751, 524809997889598596570215095, 1519909683286607213750164699, 4410287473976736173653905686, 12782236936507908045871789830, 37115355365486957705177793997, 107646973580175411004613850143, 312761601476971658510821469884, 907736482463862356159127846667, 2638938679733698176490634951229, 7663830960784486652665127072621, 22292643705582302331880381573082, 64779561870708382814904443287067, 188530436658141707354756422818124, 548161111912170087209683227571935, 1596127506663196274559313350061169, 4643276509698935553706619543476971, 13526846618990192647088381121735621, 39370781934225137744311370681429458, 114746308656293333273827579945353483, 334141651031752909413743386368478487, 974279488961996594532301582274914142, 2838393872808186079243433974670153754, 8279546180699144670067143700059414094, 24131607951799556291990511473978811398, 46287325363154636362828736689271243424, 110780123459216979848431677901909739088, 275389771038543173982772295413688170122, 706358748960317231711071053549272413590, 1848599007678011852605816561874478212435, 4908843581326723257688280001173714427123, 13187153284744032276919131063683288162383, 35654664478472791466800388356222250791687, 97300357904445482873755967066176938594053, 266031114000906420746407475915720969215658, 733194803458083959188074110102652068393464, 2020156441751687640646126737467477561231061, 5606781186539494999488544742498787997608791, 15533002270260640345259519215697401411677087, 43336433347433671056615961216760073122098337]
def pr86 : List Nat := [1, 1, 2, 4, 9, 20, 49, 117, 297, 746, 1947, 5021, 13378, 35237, 95123, 254825, 694987, 1882707, 5184391, 14177587, 39289183, 108337723, 301997384, 837774846, 2347293253, 6546903307, 18417850843, 51617715836, 145722478875, 409964137081, 1161300892672, 3278334740768, 9310829374793, 26368112728163, 75074948034145, 213163076256975, 608292266367669, 1731299502668676, 4950130659874786, 14120307030950710, 40443643490900571, 115585005206000694, 331626609857476351, 949428353968283144, 2727892814267693393, 7822804989060917629, 22507203767845240683, 64636540113649351234, 186204709604922995734, 535467899713794639243, 1544325797516694296115, 4446680712940545850828, 12837993161214142219403, 37007026335009462391464, 106952670126653470663152, 308630891790971026032157, 892757559042241410829894, 2578835276893083831660115, 7466076944865566328644525, 21586152650294023447835757, 62545845853518741368582768, 180990554853741203579642751, 524809997889598596570215095, 1519909683286607213750164699, 4410287473976736173653905686, 12782236936507908045871789830, 37115355365486957705177793997, 107646973580175411004613850143, 312761601476971658510821469884, 907736482463862356159127846667, 2638938679733698176490634951229, 7663830960784486652665127072621, 22292643705582302331880381573082, 64779561870708382814904443287067, 188530436658141707354756422818124, 548161111912170087209683227571935, 1596127506663196274559313350061169, 4643276509698935553706619543476971, 13526846618990192647088381121735621, 39370781934225137744311370681429458, 114746308656293333273827579945353483, 334141651031752909413743386368478487, 974279488961996594532301582274914142, 2838393872808186079243433974670153754, 8279546180699144670067143700059414094, 24131607951799556291990511473978811398, 70418933314954192654819248163250054822, 134911731411016536140422189375888550486, 323652986942142286566753318361645792918, 802885180767515456879033099445187659182, 2065783479244207859233731165140287515017, 5391475740362714383528090230653290655083, 14369602074382210535226666125908249920885, 38478062608833339552963278198677771725253, 104467445466129951092477148973948645579259, 284033293532948889740232397475309162518566, 780179044140237695288579635942488814185370, 2141321245277673212788211095578325173260419, 5929613837718669463562793804997676536491235, 16383327739658201310320388868505992788908413, 45631904290632700249778974639699359598710291]
def pr87 : List Nat := [1, 1, 2, 4, 9, 20, 49, 117, 297, 746, 1947, 5021, 13378, 35237, 95123, 254825, 694987, 1882707, 5184391, 14177587, 39289183, 108337723, 301997384, 837774846, 2347293253, 6546903307, 18417850843, 51617715836, 145722478875, 409964137081, 1161300892672, 3278334740768, 9310829374793, 26368112728163, 75074948034145, 213163076256975, 608292266367669, 1731299502668676, 4950130659874786, 14120307030950710, 40443643490900571, 115585005206000694, 331626609857476351, 949428353968283144, 2727892814267693393, 7822804989060917629, 22507203767845240683, 64636540113649351234, 186204709604922995734, 535467899713794639243, 1544325797516694296115, 4446680712940545850828, 12837993161214142219403, 37007026335009462391464, 106952670126653470663152, 308630891790971026032157, 892757559042241410829894, 2578835276893083831660115, 7466076944865566328644525, 21586152650294023447835757, 62545845853518741368582768, 180990554853741203579642751, 524809997889598596570215095, 1519909683286607213750164699, 4410287473976736173653905686, 12782236936507908045871789830, 37115355365486957705177793997, 107646973580175411004613850143, 312761601476971658510821469884, 907736482463862356159127846667, 2638938679733698176490634951229, 7663830960784486652665127072621, 22292643705582302331880381573082, 64779561870708382814904443287067, 188530436658141707354756422818124, 548161111912170087209683227571935, 1596127506663196274559313350061169, 4643276509698935553706619543476971, 13526846618990192647088381121735621, 39370781934225137744311370681429458, 114746308656293333273827579945353483, 334141651031752909413743386368478487, 974279488961996594532301582274914142, 2838393872808186079243433974670153754, 8279546180699144670067143700059414094, 24131607951799556291990511473978811398, 70418933314954192654819248163250054822, 205330664725970728795241437539138605308, 394071920257096479221572566524895847740, 943723047397423842188671595771687768826, 2347459212504024629853008157793287734305, 6025246140197302117421463464122541148481, 15777980740681294388323051089173251017325, 41928590341266094993049421358677024411531, 112706460663979591633091001009048901993433, 304947716727490284958713714179794428800700, 832711568393193523009074795072273355082582, 2278426908441889025887144171752173029998853, 6283187301893054464882641250025355061752497, 17325392229545658499656560770433952022317129, 48113256243851741136356840487227801780473105]
def pr88 : List Nat := [1, 1, 2, 4, 9, 20, 49, 117, 297, 746, 1947, 5021, 13378, 35237, 95123, 254825, 694987, 1882707, 5184391, 14177587, 39289183, 108337723, 301997384, 837774846, 2347293253, 6546903307, 18417850843, 51617715836, 145722478875, 409964137081, 1161300892672, 3278334740768, 9310829374793, 26368112728163, 75074948034145, 213163076256975, 608292266367669, 1731299502668676, 4950130659874786, 14120307030950710, 40443643490900571, 115585005206000694, 331626609857476351, 949428353968283144, 2727892814267693393, 7822804989060917629, 22507203767845240683, 64636540113649351234, 186204709604922995734, 535467899713794639243, 1544325797516694296115, 4446680712940545850828, 12837993161214142219403, 37007026335009462391464, 106952670126653470663152, 308630891790971026032157, 892757559042241410829894, 2578835276893083831660115, 7466076944865566328644525, 21586152650294023447835757, 62545845853518741368582768, 180990554853741203579642751, 524809997889598596570215095, 1519909683286607213750164699, 4410287473976736173653905686, 12782236936507908045871789830, 37115355365486957705177793997, 107646973580175411004613850143, 312761601476971658510821469884, 907736482463862356159127846667, 2638938679733698176490634951229, 7663830960784486652665127072621, 22292643705582302331880381573082, 64779561870708382814904443287067, 188530436658141707354756422818124, 548161111912170087209683227571935, 1596127506663196274559313350061169, 4643276509698935553706619543476971, 13526846618990192647088381121735621, 39370781934225137744311370681429458, 114746308656293333273827579945353483, 334141651031752909413743386368478487, 974279488961996594532301582274914142, 2838393872808186079243433974670153754, 8279546180699144670067143700059414094, 24131607951799556291990511473978811398, 70418933314954192654819248163250054822, 205330664725970728795241437539138605308, 599402584983067208016814004064034453048, 1149053712123394570983913033310826374134, 2758120541955966087443491032871564944921, 6846568799101185032602429214279095569713, 17625956723215030947480224027025498465097, 46035203635785509568954250109459796517691, 122767663235552157344057831448466693653525, 328971404500428860227756962371873645621736, 893694775816806829461261502021397520859058, 2431603584327463189568394284156370429558621, 6682966106114519473846976328914057926287173, 18356357497134757528937468028317966959568597, 50860169876555777546179580438626398042283529]
def pr89 : List Nat := [1, 1, 2, 4, 9, 20, 49, 117, 297, 746, 1947, 5021, 13378, 35237, 95123, 254825, 694987, 1882707, 5184391, 14177587, 39289183, 108337723, 301997384, 837774846, 2347293253, 6546903307, 18417850843, 51617715836, 145722478875, 409964137081, 1161300892672, 3278334740768, 9310829374793, 26368112728163, 75074948034145, 213163076256975, 608292266367669, 1731299502668676, 4950130659874786, 14120307030950710, 40443643490900571, 115585005206000694, 331626609857476351, 949428353968283144, 2727892814267693393, 7822804989060917629, 22507203767845240683, 64636540113649351234, 186204709604922995734, 535467899713794639243, 1544325797516694296115, 4446680712940545850828, 12837993161214142219403, 37007026335009462391464, 106952670126653470663152, 308630891790971026032157, 892757559042241410829894, 2578835276893083831660115, 7466076944865566328644525, 21586152650294023447835757, 62545845853518741368582768, 180990554853741203579642751, 524809997889598596570215095, 1519909683286607213750164699, 4410287473976736173653905686, 12782236936507908045871789830, 37115355365486957705177793997, 107646973580175411004613850143, 312761601476971658510821469884, 907736482463862356159127846667, 2638938679733698176490634951229, 7663830960784486652665127072621, 22292643705582302331880381573082, 64779561870708382814904443287067, 188530436658141707354756422818124, 548161111912170087209683227571935, 1596127506663196274559313350061169, 4643276509698935553706619543476971, 13526846618990192647088381121735621, 39370781934225137744311370681429458, 114746308656293333273827579945353483, 334141651031752909413743386368478487, 974279488961996594532301582274914142, 2838393872808186079243433974670153754, 8279546180699144670067143700059414094, 24131607951799556291990511473978811398, 70418933314954192654819248163250054822, 205330664725970728795241437539138605308, 599402584983067208016814004064034453048, 1748456297106461779000727037374860827182, 3357523126939033295460305036935599397969, 8045373969067319448636057222407164475809, 20023567063147299779547480043281636277289, 51429826900633114441105576146036106595123, 134755714935213501504394111529747382714485, 358342131164599153420580848571011333821088, 963824878259825692799228740496889551865674, 2609626152067434150349388043363388662113877, 7130120434511887611027519575945827628260981, 19523394330096789382946204894230642039653053, 53869770255755757997632003553031915031037537]
def pr90 : List Nat := [1, 1, 2, 4, 9, 20, 49, 117, 297, 746, 1947, 5021, 13378, 35237, 95123, 254825, 694987, 1882707, 5184391, 14177587, 39289183, 108337723, 301997384, 837774846, 2347293253, 6546903307, 18417850843, 51617715836, 145722478875, 409964137081, 1161300892672, 3278334740768, 9310829374793, 26368112728163, 75074948034145, 213163076256975, 608292266367669, 1731299502668676, 4950130659874786, 14120307030950710, 40443643490900571, 115585005206000694, 331626609857476351, 949428353968283144, 2727892814267693393, 7822804989060917629, 22507203767845240683, 64636540113649351234, 186204709604922995734, 535467899713794639243, 1544325797516694296115, 4446680712940545850828, 12837993161214142219403, 37007026335009462391464, 106952670126653470663152, 308630891790971026032157, 892757559042241410829894, 2578835276893083831660115, 7466076944865566328644525, 21586152650294023447835757, 62545845853518741368582768, 180990554853741203579642751, 524809997889598596570215095, 1519909683286607213750164699, 4410287473976736173653905686, 12782236936507908045871789830, 37115355365486957705177793997, 107646973580175411004613850143, 312761601476971658510821469884, 907736482463862356159127846667, 2638938679733698176490634951229, 7663830960784486652665127072621, 22292643705582302331880381573082, 64779561870708382814904443287067, 188530436658141707354756422818124, 548161111912170087209683227571935, 1596127506663196274559313350061169, 4643276509698935553706619543476971, 13526846618990192647088381121735621, 39370781934225137744311370681429458, 114746308656293333273827579945353483, 334141651031752909413743386368478487, 974279488961996594532301582274914142, 2838393872808186079243433974670153754, 8279546180699144670067143700059414094, 24131607951799556291990511473978811398, 70418933314954192654819248163250054822, 205330664725970728795241437539138605308, 599402584983067208016814004064034453048, 1748456297106461779000727037374860827182, 5105979424045495074461032074310460225151, 9793830266173781227636784259782025302991, 23520479657360223337548934118031357931653, 58423652089058961557108484295535549903851, 150491821609171657515400654866121130159123, 393311257106728389000595389318508550364728, 1049499236818042319970264365328257732397592, 2814195538828890178492473106736247378894171, 7649411954752506759390735506046161293934035, 20827742727738209870080747264112288216730825, 57274014666222039081346419094800769061560891]
def pr91 : List Nat := [1, 1, 2, 4, 9, 20, 49, 117, 297, 746, 1947, 5021, 13378, 35237, 95123, 254825, 694987, 1882707, 5184391, 14177587, 39289183, 108337723, 301997384, 837774846, 2347293253, 6546903307, 18417850843, 51617715836, 145722478875, 409964137081, 1161300892672, 3278334740768, 9310829374793, 26368112728163, 75074948034145, 213163076256975, 608292266367669, 1731299502668676, 4950130659874786, 14120307030950710, 40443643490900571, 115585005206000694, 331626609857476351, 949428353968283144, 2727892814267693393, 7822804989060917629, 22507203767845240683, 64636540113649351234, 186204709604922995734, 535467899713794639243, 1544325797516694296115, 4446680712940545850828, 12837993161214142219403, 37007026335009462391464, 106952670126653470663152, 308630891790971026032157, 892757559042241410829894, 2578835276893083831660115, 7466076944865566328644525, 21586152650294023447835757, 62545845853518741368582768, 180990554853741203579642751, 524809997889598596570215095, 1519909683286607213750164699, 4410287473976736173653905686, 12782236936507908045871789830, 37115355365486957705177793997, 107646973580175411004613850143, 312761601476971658510821469884, 907736482463862356159127846667, 2638938679733698176490634951229, 7663830960784486652665127072621, 22292643705582302331880381573082, 64779561870708382814904443287067, 188530436658141707354756422818124, 548161111912170087209683227571935, 1596127506663196274559313350061169, 4643276509698935553706619543476971, 13526846618990192647088381121735621, 39370781934225137744311370681429458, 114746308656293333273827579945353483, 334141651031752909413743386368478487, 974279488961996594532301582274914142, 2838393872808186079243433974670153754, 8279546180699144670067143700059414094, 24131607951799556291990511473978811398, 70418933314954192654819248163250054822, 205330664725970728795241437539138605308, 599402584983067208016814004064034453048, 1748456297106461779000727037374860827182, 5105979424045495074461032074310460225151, 14899809690219276302097816334092485528142, 28626459081405718412009966192341818156804, 68635610937149951706030548444156470354153, 170915739305353637813244783163362971059727, 439265071923137844670744677987302692391087, 1151618825298952221459485006814466936900612, 3064388530607119437141063678377459929926570, 8246811547365829683102676258740485140276702, 22344218616679721907195673790182494903600672, 61083075316559978406894349022236372389523537]
def pr92 : List Nat := [1, 1, 2, 4, 9, 20, 49, 117, 297, 746, 1947, 5021, 13378, 35237, 95123, 254825, 694987, 1882707, 5184391, 14177587, 39289183, 108337723, 301997384, 837774846, 2347293253, 6546903307, 18417850843, 51617715836, 145722478875, 409964137081, 1161300892672, 3278334740768, 9310829374793, 26368112728163, 75074948034145, 213163076256975, 608292266367669, 1731299502668676, 4950130659874786, 14120307030950710, 40443643490900571, 115585005206000694, 331626609857476351, 949428353968283144, 2727892814267693393, 7822804989060917629, 22507203767845240683, 64636540113649351234, 186204709604922995734, 535467899713794639243, 1544325797516694296115, 4446680712940545850828, 12837993161214142219403, 37007026335009462391464, 106952670126653470663152, 308630891790971026032157, 892757559042241410829894, 2578835276893083831660115, 7466076944865566328644525, 21586152650294023447835757, 62545845853518741368582768, 180990554853741203579642751, 524809997889598596570215095, 1519909683286607213750164699, 4410287473976736173653905686, 12782236936507908045871789830, 37115355365486957705177793997, 107646973580175411004613850143, 312761601476971658510821469884, 907736482463862356159127846667, 2638938679733698176490634951229, 7663830960784486652665127072621, 22292643705582302331880381573082, 64779561870708382814904443287067, 188530436658141707354756422818124, 548161111912170087209683227571935, 1596127506663196274559313350061169, 4643276509698935553706619543476971, 13526846618990192647088381121735621, 39370781934225137744311370681429458, 114746308656293333273827579945353483, 334141651031752909413743386368478487, 974279488961996594532301582274914142, 2838393872808186079243433974670153754, 8279546180699144670067143700059414094, 24131607951799556291990511473978811398, 70418933314954192654819248163250054822, 205330664725970728795241437539138605308, 599402584983067208016814004064034453048, 1748456297106461779000727037374860827182, 5105979424045495074461032074310460225151, 14899809690219276302097816334092485528142, 43526268771624994714107782526434303684946, 83535420627369228008128364778248955882295, 200715358685792190417440415831547942116011, 498864310684014949879135943323672634503655, 1285717112510925708178365353821299306653890, 3362384724411504963183020005059309640489410, 8976902222186574221905469259111016931155660, 24087496350435377234541118301271315710393286, 65508318794555103468617400473461840591381711]
def pr93 : List Nat := [1, 1, 2, 4, 9, 20, 49, 117, 297, 746, 1947, 5021, 13378, 35237, 95123, 254825, 694987, 1882707, 5184391, 14177587, 39289183, 108337723, 301997384, 837774846, 2347293253, 6546903307, 18417850843, 51617715836, 145722478875, 409964137081, 1161300892672, 3278334740768, 9310829374793, 26368112728163, 75074948034145, 213163076256975, 608292266367669, 1731299502668676, 4950130659874786, 14120307030950710, 40443643490900571, 115585005206000694, 331626609857476351, 949428353968283144, 2727892814267693393, 7822804989060917629, 22507203767845240683, 64636540113649351234, 186204709604922995734, 535467899713794639243, 1544325797516694296115, 4446680712940545850828, 12837993161214142219403, 37007026335009462391464, 106952670126653470663152, 308630891790971026032157, 892757559042241410829894, 2578835276893083831660115, 7466076944865566328644525, 21586152650294023447835757, 62545845853518741368582768, 180990554853741203579642751, 524809997889598596570215095, 1519909683286607213750164699, 4410287473976736173653905686, 12782236936507908045871789830, 37115355365486957705177793997, 107646973580175411004613850143, 312761601476971658510821469884, 907736482463862356159127846667, 2638938679733698176490634951229, 7663830960784486652665127072621, 22292643705582302331880381573082, 64779561870708382814904443287067, 188530436658141707354756422818124, 548161111912170087209683227571935, 1596127506663196274559313350061169, 4643276509698935553706619543476971, 13526846618990192647088381121735621, 39370781934225137744311370681429458, 114746308656293333273827579945353483, 334141651031752909413743386368478487, 974279488961996594532301582274914142, 2838393872808186079243433974670153754, 8279546180699144670067143700059414094, 24131607951799556291990511473978811398, 70418933314954192654819248163250054822, 205330664725970728795241437539138605308, 599402584983067208016814004064034453048, 1748456297106461779000727037374860827182, 5105979424045495074461032074310460225151, 14899809690219276302097816334092485528142, 43526268771624994714107782526434303684946, 127061689398994222722236147304683259567241, 244241627457417185131548198357982245800957, 585916848227264939307351508376541241873547, 1459822187597425687034796483927036521393674, 3754121143356129915609990047797218373653924, 9847427597619074116187624909639703004854580, 26220283520245001975532399645066596590955640, 70600892240835227850168011029054654122520393]
def pr94 : List Nat := [1, 1, 2, 4, 9, 20, 49, 117, 297, 746, 1947, 5021, 13378, 35237, 95123, 254825, 694987, 1882707, 5184391, 14177587, 39289183, 108337723, 301997384, 837774846, 2347293253, 6546903307, 18417850843, 51617715836, 145722478875, 409964137081, 1161300892672, 3278334740768, 9310829374793, 26368112728163, 75074948034145, 213163076256975, 608292266367669, 1731299502668676, 4950130659874786, 14120307030950710, 40443643490900571, 115585005206000694, 331626609857476351, 949428353968283144, 2727892814267693393, 7822804989060917629, 22507203767845240683, 64636540113649351234, 186204709604922995734, 535467899713794639243, 1544325797516694296115, 4446680712940545850828, 12837993161214142219403, 37007026335009462391464, 106952670126653470663152, 308630891790971026032157, 892757559042241410829894, 2578835276893083831660115, 7466076944865566328644525, 21586152650294023447835757, 62545845853518741368582768, 180990554853741203579642751, 524809997889598596570215095, 1519909683286607213750164699, 4410287473976736173653905686, 12782236936507908045871789830, 37115355365486957705177793997, 107646973580175411004613850143, 312761601476971658510821469884, 907736482463862356159127846667, 2638938679733698176490634951229, 7663830960784486652665127072621, 22292643705582302331880381573082, 64779561870708382814904443287067, 188530436658141707354756422818124, 548161111912170087209683227571935, 1596127506663196274559313350061169, 4643276509698935553706619543476971, 13526846618990192647088381121735621, 39370781934225137744311370681429458, 114746308656293333273827579945353483, 334141651031752909413743386368478487, 974279488961996594532301582274914142, 2838393872808186079243433974670153754, 8279546180699144670067143700059414094, 24131607951799556291990511473978811398, 70418933314954192654819248163250054822, 205330664725970728795241437539138605308, 599402584983067208016814004064034453048, 1748456297106461779000727037374860827182, 5105979424045495074461032074310460225151, 14899809690219276302097816334092485528142, 43526268771624994714107782526434303684946, 127061689398994222722236147304683259567241, 371303316856411407853784345662665505368198, 712978537626259162029587655681224501440788, 1713945566395414132479268778536403040528156, 4262367900952106806498934637015951411922888, 10990982802210022120687750235381852340959749, 28761517308224886429977122591160261782300460, 76826915021385944763557582246984133841315202]
def pr95 : List Nat := [1, 1, 2, 4, 9, 20, 49, 117, 297, 746, 1947, 5021, 13378, 35237, 95123, 254825, 694987, 1882707, 5184391, 14177587, 39289183, 108337723, 301997384, 837774846, 2347293253, 6546903307, 18417850843, 51617715836, 145722478875, 409964137081, 1161300892672, 3278334740768, 9310829374793, 26368112728163, 75074948034145, 213163076256975, 608292266367669, 1731299502668676, 4950130659874786, 14120307030950710, 40443643490900571, 115585005206000694, 331626609857476351, 949428353968283144, 2727892814267693393, 7822804989060917629, 22507203767845240683, 64636540113649351234, 186204709604922995734, 535467899713794639243, 1544325797516694296115, 4446680712940545850828, 12837993161214142219403, 37007026335009462391464, 106952670126653470663152, 308630891790971026032157, 892757559042241410829894, 2578835276893083831660115, 7466076944865566328644525, 21586152650294023447835757, 62545845853518741368582768, 180990554853741203579642751, 524809997889598596570215095, 1519909683286607213750164699, 4410287473976736173653905686, 12782236936507908045871789830, 37115355365486957705177793997, 107646973580175411004613850143, 312761601476971658510821469884, 907736482463862356159127846667, 2638938679733698176490634951229, 7663830960784486652665127072621, 22292643705582302331880381573082, 64779561870708382814904443287067, 188530436658141707354756422818124, 548161111912170087209683227571935, 1596127506663196274559313350061169, 4643276509698935553706619543476971, 13526846618990192647088381121735621, 39370781934225137744311370681429458, 114746308656293333273827579945353483, 334141651031752909413743386368478487, 974279488961996594532301582274914142, 2838393872808186079243433974670153754, 8279546180699144670067143700059414094, 24131607951799556291990511473978811398, 70418933314954192654819248163250054822, 205330664725970728795241437539138605308, 599402584983067208016814004064034453048, 1748456297106461779000727037374860827182, 5105979424045495074461032074310460225151, 14899809690219276302097816334092485528142, 43526268771624994714107782526434303684946, 127061689398994222722236147304683259567241, 371303316856411407853784345662665505368198, 1084281854482670569883372001343890006808986, 2085248883251825540333053124199068545896354, 5004974534664929622206503328341282422659284, 12476196069635667752102887618032514362432541, 32103247159932589100661181702124251330614242, 84252981358514172920633269160237443948679162]
def pr96 : List Nat := [1, 1, 2, 4, 9, 20, 49, 117, 297, 746, 1947, 5021, 13378, 35237, 95123, 254825, 694987, 1882707, 5184391, 14177587, 39289183, 108337723, 301997384, 837774846, 2347293253, 6546903307, 18417850843, 51617715836, 145722478875, 409964137081, 1161300892672, 3278334740768, 9310829374793, 26368112728163, 75074948034145, 213163076256975, 608292266367669, 1731299502668676, 4950130659874786, 14120307030950710, 40443643490900571, 115585005206000694, 331626609857476351, 949428353968283144, 2727892814267693393, 7822804989060917629, 22507203767845240683, 64636540113649351234, 186204709604922995734, 535467899713794639243, 1544325797516694296115, 4446680712940545850828, 12837993161214142219403, 37007026335009462391464, 106952670126653470663152, 308630891790971026032157, 892757559042241410829894, 2578835276893083831660115, 7466076944865566328644525, 21586152650294023447835757, 62545845853518741368582768, 180990554853741203579642751, 524809997889598596570215095, 1519909683286607213750164699, 4410287473976736173653905686, 12782236936507908045871789830, 37115355365486957705177793997, 107646973580175411004613850143, 312761601476971658510821469884, 907736482463862356159127846667, 2638938679733698176490634951229, 7663830960784486652665127072621, 22292643705582302331880381573082, 64779561870708382814904443287067, 188530436658141707354756422818124, 548161111912170087209683227571935, 1596127506663196274559313350061169, 4643276509698935553706619543476971, 13526846618990192647088381121735621, 39370781934225137744311370681429458, 114746308656293333273827579945353483, 334141651031752909413743386368478487, 974279488961996594532301582274914142, 2838393872808186079243433974670153754, 8279546180699144670067143700059414094, 24131607951799556291990511473978811398, 70418933314954192654819248163250054822, 205330664725970728795241437539138605308, 599402584983067208016814004064034453048, 1748456297106461779000727037374860827182, 5105979424045495074461032074310460225151, 14899809690219276302097816334092485528142, 43526268771624994714107782526434303684946, 127061689398994222722236147304683259567241, 371303316856411407853784345662665505368198, 1084281854482670569883372001343890006808986, 3169530737734496110216425125542958552705340, 6089256389147600192089875329685172429468270, 14644759778601008891869631620720294376050513, 36440374577863271380194669707499811357850186, 94011518048858208049583617172332454009960036]
def pr97 : List Nat := [1, 1, 2, 4, 9, 20, 49, 117, 297, 746, 1947, 5021, 13378, 35237, 95123, 254825, 694987, 1882707, 5184391, 14177587, 39289183, 108337723, 301997384, 837774846, 2347293253, 6546903307, 18417850843, 51617715836, 145722478875, 409964137081, 1161300892672, 3278334740768, 9310829374793, 26368112728163, 75074948034145, 213163076256975, 608292266367669, 1731299502668676, 4950130659874786, 14120307030950710, 40443643490900571, 115585005206000694, 331626609857476351, 949428353968283144, 2727892814267693393, 7822804989060917629, 22507203767845240683, 64636540113649351234, 186204709604922995734, 535467899713794639243, 1544325797516694296115, 4446680712940545850828, 12837993161214142219403, 37007026335009462391464, 106952670126653470663152, 308630891790971026032157, 892757559042241410829894, 2578835276893083831660115, 7466076944865566328644525, 21586152650294023447835757, 62545845853518741368582768, 180990554853741203579642751, 524809997889598596570215095, 1519909683286607213750164699, 4410287473976736173653905686, 12782236936507908045871789830, 37115355365486957705177793997, 107646973580175411004613850143, 312761601476971658510821469884, 907736482463862356159127846667, 2638938679733698176490634951229, 7663830960784486652665127072621, 22292643705582302331880381573082, 64779561870708382814904443287067, 188530436658141707354756422818124, 548161111912170087209683227571935, 1596127506663196274559313350061169, 4643276509698935553706619543476971, 13526846618990192647088381121735621, 39370781934225137744311370681429458, 114746308656293333273827579945353483, 334141651031752909413743386368478487, 974279488961996594532301582274914142, 2838393872808186079243433974670153754, 8279546180699144670067143700059414094, 24131607951799556291990511473978811398, 70418933314954192654819248163250054822, 205330664725970728795241437539138605308, 599402584983067208016814004064034453048, 1748456297106461779000727037374860827182, 5105979424045495074461032074310460225151, 14899809690219276302097816334092485528142, 43526268771624994714107782526434303684946, 127061689398994222722236147304683259567241, 371303316856411407853784345662665505368198, 1084281854482670569883372001343890006808986, 3169530737734496110216425125542958552705340, 9258787126882096302306300455228130982173610, 17814290516335505002086056746263252928755853, 42779436053332263600627519958585728463260866, 106689640999796192490449317674504288220781396]
def pr98 : List Nat := [1, 1, 2, 4, 9, 20, 49, 117, 297, 746, 1947, 5021, 13378, 35237, 95123, 254825, 694987, 1882707, 5184391, 14177587, 39289183, 108337723, 301997384, 837774846, 2347293253, 6546903307, 18417850843, 51617715836, 145722478875, 409964137081, 1161300892672, 3278334740768, 9310829374793, 26368112728163, 75074948034145, 213163076256975, 608292266367669, 1731299502668676, 4950130659874786, 14120307030950710, 40443643490900571, 115585005206000694, 331626609857476351, 949428353968283144, 2727892814267693393, 7822804989060917629, 22507203767845240683, 64636540113649351234, 186204709604922995734, 535467899713794639243, 1544325797516694296115, 4446680712940545850828, 12837993161214142219403, 37007026335009462391464, 106952670126653470663152, 308630891790971026032157, 892757559042241410829894, 2578835276893083831660115, 7466076944865566328644525, 21586152650294023447835757, 62545845853518741368582768, 180990554853741203579642751, 524809997889598596570215095, 1519909683286607213750164699, 4410287473976736173653905686, 12782236936507908045871789830, 37115355365486957705177793997, 107646973580175411004613850143, 312761601476971658510821469884, 907736482463862356159127846667, 2638938679733698176490634951229, 7663830960784486652665127072621, 22292643705582302331880381573082, 64779561870708382814904443287067, 188530436658141707354756422818124, 548161111912170087209683227571935, 1596127506663196274559313350061169, 4643276509698935553706619543476971, 13526846618990192647088381121735621, 39370781934225137744311370681429458, 114746308656293333273827579945353483, 334141651031752909413743386368478487, 974279488961996594532301582274914142, 2838393872808186079243433974670153754, 8279546180699144670067143700059414094, 24131607951799556291990511473978811398, 70418933314954192654819248163250054822, 205330664725970728795241437539138605308, 599402584983067208016814004064034453048, 1748456297106461779000727037374860827182, 5105979424045495074461032074310460225151, 14899809690219276302097816334092485528142, 43526268771624994714107782526434303684946, 127061689398994222722236147304683259567241, 371303316856411407853784345662665505368198, 1084281854482670569883372001343890006808986, 3169530737734496110216425125542958552705340, 9258787126882096302306300455228130982173610, 27073077643217601304392357201491383910929463, 52038223180214359902933820413813859445434476, 125207215253560385095061918584960550185128616]
def pr99 : List Nat := [1, 1, 2, 4, 9, 20, 49, 117, 297, 746, 1947, 5021, 13378, 35237, 95123, 254825, 694987, 1882707, 5184391, 14177587, 39289183, 108337723, 301997384, 837774846, 2347293253, 6546903307, 18417850843, 51617715836, 145722478875, 409964137081, 1161300892672, 3278334740768, 9310829374793, 26368112728163, 75074948034145, 213163076256975, 608292266367669, 1731299502668676, 4950130659874786, 14120307030950710, 40443643490900571, 115585005206000694, 331626609857476351, 949428353968283144, 2727892814267693393, 7822804989060917629, 22507203767845240683, 64636540113649351234, 186204709604922995734, 535467899713794639243, 1544325797516694296115, 4446680712940545850828, 12837993161214142219403, 37007026335009462391464, 106952670126653470663152, 308630891790971026032157, 892757559042241410829894, 2578835276893083831660115, 7466076944865566328644525, 21586152650294023447835757, 62545845853518741368582768, 180990554853741203579642751, 524809997889598596570215095, 1519909683286607213750164699, 4410287473976736173653905686, 12782236936507908045871789830, 37115355365486957705177793997, 107646973580175411004613850143, 312761601476971658510821469884, 907736482463862356159127846667, 2638938679733698176490634951229, 7663830960784486652665127072621, 22292643705582302331880381573082, 64779561870708382814904443287067, 188530436658141707354756422818124, 548161111912170087209683227571935, 1596127506663196274559313350061169, 4643276509698935553706619543476971, 13526846618990192647088381121735621, 39370781934225137744311370681429458, 114746308656293333273827579945353483, 334141651031752909413743386368478487, 974279488961996594532301582274914142, 2838393872808186079243433974670153754, 8279546180699144670067143700059414094, 24131607951799556291990511473978811398, 70418933314954192654819248163250054822, 205330664725970728795241437539138605308, 599402584983067208016814004064034453048, 1748456297106461779000727037374860827182, 5105979424045495074461032074310460225151, 14899809690219276302097816334092485528142, 43526268771624994714107782526434303684946, 127061689398994222722236147304683259567241, 371303316856411407853784345662665505368198, 1084281854482670569883372001343890006808986, 3169530737734496110216425125542958552705340, 9258787126882096302306300455228130982173610, 27073077643217601304392357201491383910929463, 79111300823431961207326177615305243356363939, 152280292896777986399454275786451934096058079]
def pr100 : List Nat := [1, 1, 2, 4, 9, 20, 49, 117, 297, 746, 1947, 5021, 13378, 35237, 95123, 254825, 694987, 1882707, 5184391, 14177587, 39289183, 108337723, 301997384, 837774846, 2347293253, 6546903307, 18417850843, 51617715836, 145722478875, 409964137081, 1161300892672, 3278334740768, 9310829374793, 26368112728163, 75074948034145, 213163076256975, 608292266367669, 1731299502668676, 4950130659874786, 14120307030950710, 40443643490900571, 115585005206000694, 331626609857476351, 949428353968283144, 2727892814267693393, 7822804989060917629, 22507203767845240683, 64636540113649351234, 186204709604922995734, 535467899713794639243, 1544325797516694296115, 4446680712940545850828, 12837993161214142219403, 37007026335009462391464, 106952670126653470663152, 308630891790971026032157, 892757559042241410829894, 2578835276893083831660115, 7466076944865566328644525, 21586152650294023447835757, 62545845853518741368582768, 180990554853741203579642751, 524809997889598596570215095, 1519909683286607213750164699, 4410287473976736173653905686, 12782236936507908045871789830, 37115355365486957705177793997, 107646973580175411004613850143, 312761601476971658510821469884, 907736482463862356159127846667, 2638938679733698176490634951229, 7663830960784486652665127072621, 22292643705582302331880381573082, 64779561870708382814904443287067, 188530436658141707354756422818124, 548161111912170087209683227571935, 1596127506663196274559313350061169, 4643276509698935553706619543476971, 13526846618990192647088381121735621, 39370781934225137744311370681429458, 114746308656293333273827579945353483, 334141651031752909413743386368478487, 974279488961996594532301582274914142, 2838393872808186079243433974670153754, 8279546180699144670067143700059414094, 24131607951799556291990511473978811398, 70418933314954192654819248163250054822, 205330664725970728795241437539138605308, 599402584983067208016814004064034453048, 1748456297106461779000727037374860827182, 5105979424045495074461032074310460225151, 14899809690219276302097816334092485528142, 43526268771624994714107782526434303684946, 127061689398994222722236147304683259567241, 371303316856411407853784345662665505368198, 1084281854482670569883372001343890006808986, 3169530737734496110216425125542958552705340, 9258787126882096302306300455228130982173610, 27073077643217601304392357201491383910929463, 79111300823431961207326177615305243356363939, 231391593720209947606780453401757177452422018]
def pb : List (List Nat) := [pr0, pr1, pr2, pr3, pr4, pr5, pr6, pr7, pr8, pr9, pr10, pr11, pr12, pr13, pr14, pr15, pr16, pr17, pr18, pr19, pr20, pr21, pr22, pr23, pr24, pr25, pr26, pr27, pr28, pr29, pr30, pr31, pr32, pr33, pr34, pr35, pr36, pr37, pr38, pr39, pr40, pr41, pr42, pr43, pr44, pr45, pr46, pr47, pr48, pr49, pr50, pr51, pr52, pr53, pr54, pr55, pr56, pr57, pr58, pr59, pr60, pr61, pr62, pr63, pr64, pr65, pr66, pr67, pr68, pr69, pr70, pr71, pr72, pr73, pr74, pr75, pr76, pr77, pr78, pr79, pr80, pr81, pr82, pr83, pr84, pr85, pr86, pr87, pr88, pr89, pr90, pr91, pr92, pr93, pr94, pr95, pr96, pr97, pr98, pr99, pr100]
def tget (rows : List (List Nat)) (e l : Nat) : Nat := ((rows.getD e []).getD l 0)
/-- the still rows of e entries whose last root has at least l -/
def Tf (e l : Nat) : Nat := if e = 0 then 1 else tget tb e l
/-- the coefficient of x ** j in the product up to r -/
def Pf (r j : Nat) : Nat := tget pb r j
def rowOk (e : Nat) : Bool := (List.range e).all fun i => Nat.beq (Tf e (i + 1)) (Tf e (i + 2) + Tf i 1 * Tf (e - (i + 1)) (i + 1))
theorem tb_ok : (List.range 101).all rowOk = true := by decide +kernel
theorem tb_top : (List.range 101).all (fun e => Nat.beq e 0 || (Nat.beq (Tf e (e + 1)) 0 && Nat.beq (Tf e 0) 0)) = true := by decide +kernel
def prowOk (r : Nat) : Bool := (List.range 101).all fun j => Nat.beq (Pf (r + 1) j) (Pf r j + (if Nat.ble (r + 1) j then Pf r r * Pf (r + 1) (j - (r + 1)) else 0))
theorem pb_ok : (List.range 100).all prowOk = true := by decide +kernel
theorem pb_zero : (List.range 101).all (fun j => Nat.beq (Pf 0 j) (if Nat.beq j 0 then 1 else 0)) = true := by decide +kernel
theorem tp_same : (List.range 101).all (fun n => Nat.beq (Tf n 1) (Pf n n)) = true := by decide +kernel
theorem tb_small : tb.all (fun r => r.all fun x => Nat.ble x (2 ^ 200)) = true := by decide +kernel
theorem pb_small : pb.all (fun r => r.all fun x => Nat.ble x (2 ^ 200)) = true := by decide +kernel
theorem tget_le {rows : List (List Nat)} {B : Nat} (h : rows.all (fun r => r.all fun x => Nat.ble x B) = true) (e l : Nat) : tget rows e l ≤ B := by
  unfold tget
  rw [List.getD_eq_getElem?_getD, List.getD_eq_getElem?_getD]
  cases h1 : rows[e]? with
  | none => simp
  | some r =>
    simp only [Option.getD_some]
    cases h2 : r[l]? with
    | none => simp
    | some x =>
      have a := List.all_eq_true.mp h r (List.mem_of_getElem? h1)
      exact Nat.le_of_ble_eq_true (List.all_eq_true.mp a x (List.mem_of_getElem? h2))
theorem Tf_le (e l : Nat) : Tf e l ≤ 2 ^ 200 := by
  unfold Tf
  split
  · decide
  · exact tget_le tb_small e l
theorem Pf_le (r j : Nat) : Pf r j ≤ 2 ^ 200 := tget_le pb_small r j
theorem Tf_rec {e l : Nat} (h1 : 1 ≤ l) (h2 : l ≤ e) (h3 : e ≤ 100) : Tf e l = Tf e (l + 1) + Tf (l - 1) 1 * Tf (e - l) l := by
  have a := List.all_eq_true.mp tb_ok e (List.mem_range.mpr (by omega))
  have b := List.all_eq_true.mp a (l - 1) (List.mem_range.mpr (by omega))
  have c := Nat.eq_of_beq_eq_true b
  rw [show l - 1 + 1 = l by omega, show l - 1 + 2 = l + 1 by omega] at c
  exact c
theorem Tf_top {e : Nat} (h1 : 1 ≤ e) (h2 : e ≤ 100) : Tf e (e + 1) = 0 ∧ Tf e 0 = 0 := by
  have a := List.all_eq_true.mp tb_top e (List.mem_range.mpr (by omega))
  have e0 : Nat.beq e 0 = false := by cases e with | zero => omega | succ n => rfl
  rw [e0, Bool.false_or, Bool.and_eq_true] at a
  exact ⟨Nat.eq_of_beq_eq_true a.1, Nat.eq_of_beq_eq_true a.2⟩
theorem Pf_rec {r j : Nat} (h1 : r < 100) (h2 : r + 1 ≤ j) (h3 : j ≤ 100) : Pf (r + 1) j = Pf r j + Pf r r * Pf (r + 1) (j - (r + 1)) := by
  have a := List.all_eq_true.mp pb_ok r (List.mem_range.mpr h1)
  have b := Nat.eq_of_beq_eq_true (List.all_eq_true.mp a j (List.mem_range.mpr (by omega)))
  rw [if_pos (Nat.ble_eq_true_of_le h2)] at b
  exact b
theorem Pf_low {r j : Nat} (h1 : r < 100) (h2 : j < r + 1) : Pf (r + 1) j = Pf r j := by
  have a := List.all_eq_true.mp pb_ok r (List.mem_range.mpr h1)
  have b := Nat.eq_of_beq_eq_true (List.all_eq_true.mp a j (List.mem_range.mpr (by omega)))
  rw [if_neg (fun e => by have := Nat.le_of_ble_eq_true e; omega), Nat.add_zero] at b
  exact b
theorem Pf_zero {j : Nat} (h : j ≤ 100) : Pf 0 j = if j = 0 then 1 else 0 := by
  have a := Nat.eq_of_beq_eq_true (List.all_eq_true.mp pb_zero j (List.mem_range.mpr (by omega)))
  rw [a]
  cases j <;> rfl
theorem Tf_Pf {n : Nat} (h : n ≤ 100) : Tf n 1 = Pf n n := Nat.eq_of_beq_eq_true (List.all_eq_true.mp tp_same n (List.mem_range.mpr (by omega)))
/-! ### how many span rows -/
def psumN (c : Nat) : List Nat → List Nat
  | [] => []
  | x :: xs => (c + x) :: psumN (c + x) xs
theorem psumN_len : ∀ (c : Nat) (xs : List Nat), (psumN c xs).length = xs.length
  | _, [] => rfl
  | c, x :: xs => by simp [psumN, psumN_len]
theorem psumN_take : ∀ (c : Nat) (xs : List Nat) (i x : Nat), xs[i]? = some x → (psumN c xs).take (i + 1) = (psumN c xs).take i ++ [c + (xs.take i).sum + x]
  | _, [], i, x, h => by simp at h
  | c, y :: ys, 0, x, h => by simp at h; subst h; simp [psumN]
  | c, y :: ys, i + 1, x, h => by
    simp at h
    have := psumN_take (c + y) ys i x h
    simp only [psumN, List.take_succ_cons, List.sum_cons, List.cons_append]
    rw [this]
    simp [Nat.add_assoc]
def balN (n : Nat) : Nat → List Nat
  | 0 => List.replicate (n + 1) 1
  | k + 1 => psumN 0 (balN n k).tail
theorem balN_len {n : Nat} : ∀ {k : Nat}, k ≤ n → (balN n k).length = n + 1 - k
  | 0, _ => by simp [balN]
  | k + 1, h => by simp only [balN, psumN_len, List.length_tail, balN_len (show k ≤ n by omega)]; omega
def hvN (n : Nat) : Nat → Nat
  | 0 => 1
  | k + 1 => hvN n k * (n + (k + 1)) / (k + 1)
def halN (n : Nat) : Nat := hvN n n / (n + 1)
theorem bal_hal : (List.range 101).all (fun n => Nat.beq ((balN n n).headD 0) (halN n)) = true := by decide +kernel
theorem hv_small : (List.range 101).all (fun n => (List.range (n + 1)).all fun k => Nat.ble (hvN n k) (2 ^ 300)) = true := by decide +kernel
theorem hv_le {n k : Nat} (h : n ≤ 100) (hk : k ≤ n) : hvN n k ≤ 2 ^ 300 :=
  Nat.le_of_ble_eq_true (List.all_eq_true.mp (List.all_eq_true.mp hv_small n (List.mem_range.mpr (by omega))) k (List.mem_range.mpr (by omega)))
theorem bal_top {n : Nat} (h : n ≤ 100) : (balN n n)[0]? = some (halN n) := by
  have a := Nat.eq_of_beq_eq_true (List.all_eq_true.mp bal_hal n (List.mem_range.mpr (by omega)))
  have l : (balN n n).length = 1 := by rw [balN_len (Nat.le_refl n)]; omega
  match hb : balN n n, l with
  | [x], _ => rw [hb] at a; rw [← a]; rfl
theorem hal_le {n : Nat} (h : n ≤ 100) : halN n ≤ 2 ^ 300 := Nat.le_trans (Nat.div_le_self _ _) (hv_le h (Nat.le_refl n))
theorem still7 : [Pf 0 0, Pf 1 1, Pf 2 2, Pf 3 3, Pf 4 4, Pf 5 5, Pf 6 6] = [1, 1, 2, 4, 9, 20, 49] := by decide +kernel
end Sx
set_option Elab.async false
set_option linter.all false
namespace Sx
open PySem PySem.Spec
open PyProof.Rows L2 Sx
/-! ### lists of lists of numbers -/
def vN (xs : List Nat) : List L2.V := xs.map fun (x : Nat) => L2.V.int (x : Int)
theorem vN_len (xs : List Nat) : (vN xs).length = xs.length := List.length_map _
theorem vN_at {xs : List Nat} {i x : Nat} (h : xs[i]? = some x) : (vN xs)[i]? = some (.int (x : Int)) := by
  unfold vN; rw [List.getElem?_map, h]; rfl
theorem vN_atI {xs : List Nat} {i x : Nat} (h : xs[i]? = some x) : atI (vN xs) ((i : Nat) : Int) = some (.int (x : Int)) := atI_nat (vN_at h)
theorem vN_app (xs ys : List Nat) : vN (xs ++ ys) = vN xs ++ vN ys := List.map_append
theorem vN_ints (xs : List Nat) : vN xs = (xs.map fun (x : Nat) => (x : Int)).map L2.V.int := by unfold vN; rw [List.map_map]; rfl
def LLN (H : Hp) (p : Addr) (xss : List (List Nat)) : Prop :=
  ∃ vs : List L2.V, H p = some (.lst vs) ∧ vs.length = xss.length ∧ ∀ (i : Nat) (xs : List Nat), xss[i]? = some xs → ∃ a, vs[i]? = some (.ref a) ∧ H a = some (.lst (vN xs))
theorem LLN.ex {H H' : Hp} {p : Addr} {xss : List (List Nat)} (h : LLN H p xss) (X : Ex H H') : LLN H' p xss := by
  obtain ⟨vs, h1, h2, h3⟩ := h
  refine ⟨vs, X _ _ h1, h2, fun i xs hi => ?_⟩
  obtain ⟨a, ha, hH⟩ := h3 i xs hi
  exact ⟨a, ha, X _ _ hH⟩
theorem LLN.exB {H H' : Hp} {p w : Addr} {xss : List (List Nat)} (h : LLN H p xss) (X : ExB w H H') (hw : H w = none) : LLN H' p xss := by
  obtain ⟨vs, h1, h2, h3⟩ := h
  refine ⟨vs, X _ _ (ne_of_none h1 hw) h1, h2, fun i xs hi => ?_⟩
  obtain ⟨a, ha, hH⟩ := h3 i xs hi
  exact ⟨a, ha, X _ _ (ne_of_none hH hw) hH⟩
theorem LLN.push {H : Hp} {p a : Addr} {xss : List (List Nat)} {xs : List Nat} {vs : List L2.V} (h : LLN H p xss) (hv : H p = some (.lst vs)) (ha : H a = some (.lst (vN xs))) (hn : a ≠ p) :
    LLN (upd H p (.lst (vs ++ [.ref a]))) p (xss ++ [xs]) := by
  obtain ⟨vs', h1, h2, h3⟩ := h
  rw [h1] at hv; cases hv
  refine ⟨vs ++ [.ref a], upd_same, by rw [List.length_append, List.length_append, h2]; rfl, fun i ys hi => ?_⟩
  by_cases c : i < xss.length
  · rw [List.getElem?_append_left c] at hi
    obtain ⟨b, hb, hH⟩ := h3 i ys hi
    refine ⟨b, by rw [List.getElem?_append_left (by omega)]; exact hb, ?_⟩
    rw [upd_ne ?_]
    · exact hH
    · rintro rfl
      rw [h1] at hH; cases hH
      unfold vN at hb
      rw [List.getElem?_map] at hb
      cases e : ys[i]? with
      | none => rw [e] at hb; cases hb
      | some z => rw [e] at hb; cases hb
  · rw [List.getElem?_append_right (by omega)] at hi
    have e0 : i - xss.length = 0 := by
      rcases Nat.eq_zero_or_pos (i - xss.length) with e | e
      · exact e
      · rw [show i - xss.length = (i - xss.length - 1) + 1 by omega] at hi; simp at hi
    rw [e0] at hi
    cases hi
    refine ⟨a, ?_, by rw [upd_ne hn]; exact ha⟩
    rw [List.getElem?_append_right (by omega), h2, e0]; rfl
theorem LLN.at {H : Hp} {p : Addr} {xss : List (List Nat)} {vs : List L2.V} (h : LLN H p xss) (hv : H p = some (.lst vs)) {i : Nat} {xs : List Nat} (hi : xss[i]? = some xs) :
    ∃ a, atI vs (i : Int) = some (.ref a) ∧ H a = some (.lst (vN xs)) := by
  obtain ⟨vs', h1, h2, h3⟩ := h
  rw [h1] at hv; cases hv
  obtain ⟨a, ha, hH⟩ := h3 i xs hi
  exact ⟨a, atI_nat ha, hH⟩
theorem LLN.get {H : Hp} {p : Addr} {xss : List (List Nat)} (h : LLN H p xss) : ∃ vs : List L2.V, H p = some (.lst vs) ∧ vs.length = xss.length := by
  obtain ⟨vs, h1, h2, _⟩ := h; exact ⟨vs, h1, h2⟩
theorem LLN.last {H : Hp} {p : Addr} {xss : List (List Nat)} {vs : List L2.V} (h : LLN H p xss) (hv : H p = some (.lst vs)) {n : Nat} (hn : xss.length = n + 1) {xs : List Nat} (hi : xss[n]? = some xs) :
    ∃ a, atI vs (-1) = some (.ref a) ∧ H a = some (.lst (vN xs)) := by
  obtain ⟨vs', h1, h2, h3⟩ := h
  rw [h1] at hv; cases hv
  obtain ⟨a, ha, hH⟩ := h3 n xs hi
  exact ⟨a, by rw [atI_last (h2.trans hn)]; exact ha, hH⟩
theorem range_at {α : Type} {f : Nat → α} {n i : Nat} (h : i < n) : ((List.range n).map f)[i]? = some (f i) := by
  rw [List.getElem?_map, List.getElem?_range h]; rfl
theorem range_push {α : Type} {f : Nat → α} {n : Nat} : (List.range (n + 1)).map f = (List.range n).map f ++ [f n] := by
  rw [List.range_succ, List.map_append]; rfl
theorem set_vN {xs : List Nat} {i v : Nat} : (vN xs).set i (.int (v : Int)) = vN (xs.set i v) := by
  unfold vN; rw [List.map_set]
theorem set_rangeN {f : Nat → Nat} {n d v : Nat} : ((List.range n).map f).set d v = (List.range n).map fun k => if k = d then v else f k := by
  apply List.ext_getElem?
  intro k
  rw [List.getElem?_set]
  simp only [List.length_map, List.length_range, List.getElem?_map]
  by_cases c : d = k
  · subst c
    by_cases h : d < n
    · simp [h]
    · simp [h]
  · by_cases h : k < n
    · simp [h, c, show ¬ k = d from fun e => c e.symm]
    · simp [h, c]
theorem nat_abs_le {x B : Nat} {b : Nat} (h : x ≤ 2 ^ b) : ((x : Nat) : Int).natAbs < 2 ^ (b + 1) := by
  rw [Int.natAbs_natCast, Nat.pow_succ]
  have : 0 < 2 ^ b := Nat.pow_pos (by decide)
  omega
theorem nat_log {x b : Nat} (h : x ≤ 2 ^ b) (hb : b + 1 < 1900) : ((x : Nat) : Int).natAbs.log2 < 1900 := by
  have := PySem.Flt.log2_lt_of (n := ((x : Nat) : Int).natAbs) (k := b + 1) (by omega) (nat_abs_le (B := 0) h)
  omega
theorem tb_len : (List.range 101).all (fun e => Nat.beq e 0 || Nat.beq ((tb.getD e []).length) (e + 2)) = true := by decide +kernel
theorem Tf_over {e l : Nat} (h1 : 1 ≤ e) (h2 : e ≤ 100) (h3 : e < l) : Tf e l = 0 := by
  by_cases c : l = e + 1
  · subst c; exact (Tf_top h1 h2).1
  · have a := List.all_eq_true.mp tb_len e (List.mem_range.mpr (by omega))
    have e0 : Nat.beq e 0 = false := by cases e with | zero => omega | succ n => rfl
    rw [e0, Bool.false_or] at a
    have a := Nat.eq_of_beq_eq_true a
    unfold Tf tget
    rw [if_neg (by omega), List.getD_eq_getElem?_getD, List.getElem?_eq_none (by omega)]
    rfl
end Sx

set_option Elab.async false
set_option linter.all false
namespace Sx
/-! ### still rows and their numbers -/
/-- the still rows of e entries whose roots are at least l -/
def Sg (e l : Nat) : Nat := if e = 0 then 1 else if l ≤ e then Tf e l else 0
theorem Sg_zero (l : Nat) : Sg 0 l = 1 := rfl
theorem Sg_big {e l : Nat} (h0 : 1 ≤ e) (h : e < l) : Sg e l = 0 := by unfold Sg; rw [if_neg (by omega), if_neg (by omega)]
theorem Sg_rec {e l : Nat} (h1 : 1 ≤ l) (h2 : l ≤ e) (h3 : e ≤ 100) : Sg e l = Sg e (l + 1) + Sg (l - 1) 1 * Sg (e - l) l := by
  have e1 : Sg e l = Tf e l := by unfold Sg; rw [if_neg (by omega), if_pos h2]
  have e2 : Sg e (l + 1) = Tf e (l + 1) := by
    unfold Sg
    rw [if_neg (by omega)]
    by_cases c : l + 1 ≤ e
    · rw [if_pos c]
    · rw [if_neg c]
      have : l = e := by omega
      subst this
      exact ((Tf_top (by omega) (by omega)).1).symm
  have e3 : Sg (l - 1) 1 = Tf (l - 1) 1 := by
    unfold Sg
    by_cases c : l - 1 = 0
    · rw [if_pos c, c]; rfl
    · rw [if_neg c, if_pos (by omega)]
  have e4 : Sg (e - l) l = Tf (e - l) l := by
    unfold Sg
    by_cases c : e - l = 0
    · rw [if_pos c, c]; rfl
    · rw [if_neg c]
      by_cases c2 : l ≤ e - l
      · rw [if_pos c2]
      · rw [if_neg c2]
        exact (Tf_over (by omega) (by omega) (by omega)).symm
  rw [e1, e2, e3, e4]
  exact Tf_rec h1 h2 h3
theorem Sg_mono {e l r : Nat} (h1 : 1 ≤ l) (h2 : l ≤ r) (h3 : e ≤ 100) : Sg e r ≤ Sg e l := by
  induction h2 with
  | refl => exact Nat.le_refl _
  | @step m hm ih =>
    refine Nat.le_trans ?_ ih
    have hm : l ≤ m := hm
    rcases Nat.eq_zero_or_pos e with c | c
    · subst c; exact Nat.le_refl _
    · by_cases c2 : m ≤ e
      · rw [Sg_rec (e := e) (l := m) (by omega) c2 h3]; exact Nat.le_add_right _ _
      · rw [Sg_big c (show e < m + 1 by omega)]; exact Nat.zero_le _
/-- xs is still, its roots are at least l, and it has this number among such -/
inductive St : Nat → List Int → Nat → Prop
  | nil {l : Nat} : St l [] 0
  | cons {l r : Nat} {inner pre : List Int} {ni np : Nat} (h1 : 1 ≤ l) (h2 : l ≤ r) (hi : St 1 inner ni) (hl : inner.length + 1 = r) (hp : St r pre np) :
      St l (pre ++ (inner ++ [(r : Int)])) (Sg (pre.length + r) l - Sg (pre.length + r) r + ni * Sg pre.length r + np)
theorem st_len (pre inner : List Int) (r : Nat) (hl : inner.length + 1 = r) : (pre ++ (inner ++ [(r : Int)])).length = pre.length + r := by
  rw [List.length_append, List.length_append]
  show pre.length + (inner.length + 1) = _
  omega
theorem St.pos {l : Nat} {xs : List Int} {n : Nat} (h : St l xs n) (h1 : 1 ≤ l) (hz : xs.length ≤ 100) : n < Sg xs.length l := by
  induction h with
  | nil => exact Nat.lt_succ_self 0
  | @cons l r inner pre ni np h1 h2 hi hl hp ihi ihp =>
    rw [st_len pre inner r hl] at hz ⊢
    have a := ihi (Nat.le_refl 1) (by omega)
    have b := ihp (by omega) (by omega)
    have c := Sg_rec (e := pre.length + r) (l := r) (by omega) (by omega) hz
    rw [show pre.length + r - r = pre.length by omega, show r - 1 = inner.length by omega] at c
    have d := Sg_mono (e := pre.length + r) h1 h2 hz
    have e : ni * Sg pre.length r + np < Sg inner.length 1 * Sg pre.length r := by
      have : (ni + 1) * Sg pre.length r ≤ Sg inner.length 1 * Sg pre.length r := Nat.mul_le_mul_right _ a
      rw [Nat.add_mul] at this
      omega
    omega
theorem St.lift {l : Nat} {xs : List Int} {n : Nat} (h : St (l + 1) xs n) (h1 : 1 ≤ l) (h0 : xs ≠ []) (hz : xs.length ≤ 100) : St l xs (Sg xs.length l - Sg xs.length (l + 1) + n) := by
  cases h with
  | nil => exact (h0 rfl).elim
  | @cons _ r inner pre ni np g1 g2 hi hl hp =>
    rw [st_len pre inner r hl] at hz ⊢
    have a := Sg_mono (e := pre.length + r) h1 (show l ≤ l + 1 by omega) hz
    have b := Sg_mono (e := pre.length + r) g1 g2 hz
    have := St.cons h1 (show l ≤ r by omega) hi hl hp
    rw [show Sg (pre.length + r) l - Sg (pre.length + r) (l + 1) + (Sg (pre.length + r) (l + 1) - Sg (pre.length + r) r + ni * Sg pre.length r + np) = Sg (pre.length + r) l - Sg (pre.length + r) r + ni * Sg pre.length r + np by omega]
    exact this
theorem lexI_app : ∀ {as bs cs ds : List Int}, as.length = bs.length → lexI (as ++ cs) (bs ++ ds) = if as = bs then lexI cs ds else lexI as bs
  | [], [], cs, ds, _ => by rw [if_pos rfl]; rfl
  | a :: as, b :: bs, cs, ds, h => by
    show (if a = b then lexI (as ++ cs) (bs ++ ds) else decide (a < b)) = if a :: as = b :: bs then lexI cs ds else (if a = b then lexI as bs else decide (a < b))
    rw [lexI_app (show as.length = bs.length from Nat.succ.inj h)]
    by_cases c : a = b
    · subst c
      rw [if_pos rfl]
      by_cases d : as = bs
      · subst d; rw [if_pos rfl, if_pos rfl]
      · rw [if_neg d, if_neg (fun z => d (List.cons.inj z).2), if_pos rfl]
    · rw [if_neg c, if_neg (fun z => c (List.cons.inj z).1), if_neg c]
theorem st_rev (pre inner : List Int) (r : Int) : (pre ++ (inner ++ [r])).reverse = r :: (inner.reverse ++ pre.reverse) := by simp
theorem St.order {l : Nat} {xs ys : List Int} {a b : Nat} (h : St l xs a) (h' : St l ys b) (hz : xs.length ≤ 100) (he : xs.length = ys.length) :
    (lexI xs.reverse ys.reverse = true ↔ a < b) ∧ (xs = ys ↔ a = b) := by
  induction h generalizing ys b with
  | nil =>
    cases h' with
    | nil => exact ⟨⟨(fun h => nomatch h), fun h => (Nat.lt_irrefl _ h).elim⟩, Iff.intro (fun _ => rfl) (fun _ => rfl)⟩
    | @cons _ r inner pre _ _ _ _ _ hl _ => rw [st_len pre inner r hl] at he; have : ([] : List Int).length = 0 := rfl; omega
  | @cons l r inner pre ni np h1 h2 hi hl hp ihi ihp =>
    cases h' with
    | nil => rw [st_len pre inner r hl] at he; have : ([] : List Int).length = 0 := rfl; omega
    | @cons _ r' inner' pre' ni' np' _ h2' hi' hl' hp' =>
      rw [st_len pre inner r hl] at hz he
      rw [st_len pre' inner' r' hl'] at he
      have lti := hi.pos (Nat.le_refl 1) (by omega)
      have ltp := hp.pos (by omega) (by omega)
      have lti' := hi'.pos (Nat.le_refl 1) (by omega)
      have ltp' := hp'.pos (by omega) (by omega)
      have m1 := Sg_mono (e := pre.length + r) h1 h2 hz
      have m2 := Sg_mono (e := pre.length + r) h1 h2' hz
      have c := Sg_rec (e := pre.length + r) (l := r) (by omega) (by omega) hz
      have c' := Sg_rec (e := pre.length + r) (l := r') (by omega) (by omega) hz
      rw [show pre.length + r - r = pre.length by omega, show r - 1 = inner.length by omega] at c
      rw [show pre.length + r - r' = pre'.length by omega, show r' - 1 = inner'.length by omega] at c'
      have e1 : ni * Sg pre.length r + np < Sg inner.length 1 * Sg pre.length r := by
        have : (ni + 1) * Sg pre.length r ≤ Sg inner.length 1 * Sg pre.length r := Nat.mul_le_mul_right _ lti
        rw [Nat.add_mul] at this
        omega
      have e2 : ni' * Sg pre'.length r' + np' < Sg inner'.length 1 * Sg pre'.length r' := by
        have : (ni' + 1) * Sg pre'.length r' ≤ Sg inner'.length 1 * Sg pre'.length r' := Nat.mul_le_mul_right _ lti'
        rw [Nat.add_mul] at this
        omega
      rw [st_rev, st_rev, ← he]
      show ((if (r : Int) = (r' : Int) then lexI (inner.reverse ++ pre.reverse) (inner'.reverse ++ pre'.reverse) else decide ((r : Int) < (r' : Int))) = true ↔ _) ∧ _
      by_cases cr : r = r'
      · subst cr
        have hil : inner.length = inner'.length := by omega
        have hpl : pre.length = pre'.length := by omega
        obtain ⟨i1, i2⟩ := ihi hi' (by omega) hil
        obtain ⟨p1, p2⟩ := ihp hp' (by omega) hpl
        rw [if_pos rfl, lexI_app (by rw [List.length_reverse, List.length_reverse]; exact hil), ← hpl]
        rw [← hpl] at e2
        by_cases ci : inner = inner'
        · have en := i2.mp ci
          subst ci
          subst en
          rw [if_pos rfl]
          refine ⟨p1.trans ⟨fun h => by omega, fun h => by omega⟩, fun z => ?_, fun z => ?_⟩
          · have : pre = pre' := List.append_cancel_right z
            rw [p2.mp this]
          · rw [p2.mpr (by omega)]
        · have cn : ni ≠ ni' := fun z => ci (i2.mpr z)
          rw [if_neg (fun z => ci (List.reverse_inj.mp z))]
          have key : ∀ {x y p q : Nat}, x < y → p < Sg pre.length r → x * Sg pre.length r + p < y * Sg pre.length r + q := fun {x y p q} h hp => by
            have : (x + 1) * Sg pre.length r ≤ y * Sg pre.length r := Nat.mul_le_mul_right _ h
            rw [Nat.add_mul] at this
            omega
          refine ⟨i1.trans ⟨fun h => by have := key (q := np') h ltp; omega, fun h => ?_⟩, fun z => ?_, fun z => ?_⟩
          · rcases Nat.lt_or_ge ni ni' with d | d
            · exact d
            · have := key (x := ni') (y := ni) (p := np') (q := np) (by omega) (by rw [hpl]; exact ltp'); omega
          · exfalso
            have := (List.append_inj' z (by rw [List.length_append, List.length_append, hil])).2
            exact ci (List.append_inj' this rfl).1
          · exfalso
            rcases Nat.lt_or_gt_of_ne cn with d | d
            · have := key (q := np') d ltp; omega
            · have := key (x := ni') (y := ni) (p := np') (q := np) d (by rw [hpl]; exact ltp'); omega
      · rw [if_neg (by omega), decide_eq_true_iff]
        rcases Nat.lt_or_gt_of_ne cr with d | d
        · have m3 := Sg_mono (e := pre.length + r) (show 1 ≤ r + 1 by omega) (show r + 1 ≤ r' by omega) hz
          refine ⟨⟨fun _ => by omega, fun _ => by omega⟩, fun z => ?_, fun z => by omega⟩
          exfalso
          have := congrArg List.reverse z
          rw [st_rev, st_rev] at this
          have := (List.cons.inj this).1
          omega
        · have m3 := Sg_mono (e := pre.length + r) (show 1 ≤ r' + 1 by omega) (show r' + 1 ≤ r by omega) hz
          refine ⟨⟨fun h => by omega, fun h => by omega⟩, fun z => ?_, fun z => by omega⟩
          exfalso
          have := congrArg List.reverse z
          rw [st_rev, st_rev] at this
          have := (List.cons.inj this).1
          omega
/-- a row in front of a still part whose entries do not reach over it -/
theorem spans_cat {pre w : List Int} (h : ∀ j, j < w.length → pre.length ≠ 0 → g w j ≤ g pre (pre.length - 1)) : spans (pre ++ w) = spans pre ++ spans w := by
  refine g_ext (by rw [spans_len, List.length_append, List.length_append, spans_len, spans_len]) fun i hi => ?_
  rw [spans_len, List.length_append] at hi
  rw [spans_g (by rw [List.length_append]; exact hi)]
  by_cases c : i < pre.length
  · rw [g_leftL (by rw [spans_len]; exact c), spans_g c]
    unfold spn
    rw [g_leftL c, bk_leftL (by omega)]
  · obtain ⟨j, rfl⟩ : ∃ j, i = pre.length + j := ⟨i - pre.length, by omega⟩
    have hj : j < w.length := by omega
    have gr : ∀ (a b : List Int) (k : Nat), g (a ++ b) (a.length + k) = g b k := fun a b k => by
      unfold g
      rw [List.getD_eq_getElem?_getD, List.getD_eq_getElem?_getD, List.getElem?_append_right (by omega), Nat.add_sub_cancel_left]
    have e2 : g (spans pre ++ spans w) (pre.length + j) = g (spans w) j := by
      have := gr (spans pre) (spans w) j
      rw [spans_len] at this
      exact this
    rw [e2, spans_g hj]
    unfold spn
    rw [gr, bk_right]
    by_cases z : bk w (g w j) j = 0
    · rw [if_pos z, z]
      have : bk pre (g w j) pre.length = pre.length := by
        rcases Nat.eq_zero_or_pos pre.length with p | p
        · rw [p]; rfl
        · obtain ⟨f, hf⟩ : ∃ f, pre.length = f + 1 := ⟨pre.length - 1, by omega⟩
          have := h j hj (by omega)
          rw [hf] at this ⊢
          rw [Nat.add_sub_cancel] at this
          show (if g pre f < g w j then bk pre (g w j) f else f + 1) = f + 1
          rw [if_neg (by omega)]
      rw [this]
      omega
    · rw [if_neg z]; omega
/-- a root behind what it covers -/
theorem spans_top {inner : List Int} (h : spans inner = inner) : spans (inner ++ [((inner.length + 1 : Nat) : Int)]) = inner ++ [((inner.length + 1 : Nat) : Int)] := by
  have L : Lam inner := by rw [← h]; exact spans_lam inner
  have hb : bk inner ((inner.length + 1 : Nat) : Int) inner.length = 0 := bk_eq (Nat.zero_le _) (fun j _ hj => by have := L.hi j hj; omega) (fun z => (Nat.lt_irrefl _ z).elim)
  rw [spans_snocR, h, hb]
  congr 2
theorem St.still {l : Nat} {xs : List Int} {n : Nat} (h : St l xs n) : spans xs = xs ∧ ∀ k, k + 1 = xs.length → (l : Int) ≤ g xs k := by
  induction h with
  | nil => exact ⟨rfl, fun k hk => nomatch hk⟩
  | @cons l r inner pre ni np h1 h2 hi hl hp ihi ihp =>
    have ht := spans_top ihi.1
    rw [hl] at ht
    have L : Lam (inner ++ [(r : Int)]) := by rw [← ht]; exact spans_lam _
    have hwl : (inner ++ [(r : Int)]).length = r := by rw [List.length_append]; exact hl
    refine ⟨?_, fun k hk => ?_⟩
    · rw [spans_cat fun j hj h0 => ?_, ihp.1, ht]
      have a := ihp.2 (pre.length - 1) (by omega)
      have b := L.hi j hj
      omega
    · rw [st_len pre inner r hl] at hk
      have : k = (pre ++ inner).length := by rw [List.length_append]; omega
      rw [← List.append_assoc, this, g_last]
      omega
theorem drop_consL {xs : List Int} {i : Nat} (h : i < xs.length) : xs.drop i = g xs i :: xs.drop (i + 1) := by
  rw [List.drop_eq_getElem_cons h]
  have := g_get h
  rw [List.getElem?_eq_getElem h] at this
  rw [Option.some.inj this]
theorem g_rightL (a b : List Int) (k : Nat) : g (a ++ b) (a.length + k) = g b k := by
  unfold g
  rw [List.getD_eq_getElem?_getD, List.getD_eq_getElem?_getD, List.getElem?_append_right (by omega), Nat.add_sub_cancel_left]
/-- a still row has a number -/
theorem st_ex : ∀ (m : Nat) (xs : List Int) (l : Nat), xs.length ≤ m → 1 ≤ l → spans xs = xs → (∀ k, k + 1 = xs.length → (l : Int) ≤ g xs k) → ∃ n, St l xs n
  | m, [], l, _, _, _, _ => ⟨0, .nil⟩
  | 0, x :: xs, l, h, _, _, _ => (Nat.not_succ_le_zero _ h).elim
  | m + 1, x :: xs, l, hm, h1, hs, hl => by
    generalize hw : x :: xs = ys at *
    have hn : 1 ≤ ys.length := by rw [← hw]; exact Nat.succ_pos _
    have L : Lam ys := by rw [← hs]; exact spans_lam ys
    obtain ⟨k, hk⟩ : ∃ k, ys.length = k + 1 := ⟨ys.length - 1, by omega⟩
    have hlo := L.lo k (by omega)
    have hhi := L.hi k (by omega)
    obtain ⟨r, hr⟩ : ∃ r : Nat, g ys k = (r : Int) := ⟨(g ys k).toNat, by omega⟩
    rw [hr] at hlo hhi
    have hbk : bk ys (r : Int) k + r = k + 1 := by
      have := spans_g (xs := ys) (i := k) (by omega)
      rw [hs, hr] at this
      unfold spn at this
      rw [hr] at this
      omega
    -- the parts
    obtain ⟨pre, hpre⟩ : ∃ pre, pre = ys.take (k + 1 - r) := ⟨_, rfl⟩
    obtain ⟨inner, hinner⟩ : ∃ inner, inner = (ys.drop (k + 1 - r)).take (r - 1) := ⟨_, rfl⟩
    have hpl : pre.length = k + 1 - r := by rw [hpre, List.length_take]; omega
    have hil : inner.length = r - 1 := by rw [hinner, List.length_take, List.length_drop]; omega
    have hcat : ys = pre ++ (inner ++ [(r : Int)]) := by
      have e1 := (List.take_append_drop (k + 1 - r) ys).symm
      have e2 : ys.drop (k + 1 - r) = inner ++ [(r : Int)] := by
        have e3 := (List.take_append_drop (r - 1) (ys.drop (k + 1 - r))).symm
        have e4 : ys.drop k = [(r : Int)] := by rw [drop_consL (show k < ys.length by omega), hr, List.drop_of_length_le (by omega)]
        rw [List.drop_drop, show k + 1 - r + (r - 1) = k by omega, e4] at e3
        rw [hinner]
        exact e3
      rw [e2] at e1
      rw [hpre]
      exact e1
    have hps : spans pre = pre := by rw [hpre, spans_take, hs]
    have gin : ∀ j, j < inner.length → g ys (pre.length + j) = g inner j := fun j hj => by
      rw [hcat, g_rightL, g_leftL hj]
    have his : spans inner = inner := by
      refine g_ext (spans_len inner) fun j hj => ?_
      rw [spans_len] at hj
      rw [spans_g hj]
      have hj2 : pre.length + j < ys.length := by omega
      have a := spans_g (xs := ys) (i := pre.length + j) hj2
      rw [hs] at a
      unfold spn at a ⊢
      rw [gin j hj] at a
      -- the hinderer is not in front of the part
      have hnest := L.nest k (pre.length + j) (by omega) (by unfold fc; rw [hr]; omega) (by omega)
      unfold fc at hnest
      rw [hr, gin j hj] at hnest
      have hb : bk ys (g inner j) (pre.length + j) = pre.length + bk inner (g inner j) j := by
        have e1 : bk ys (g inner j) (pre.length + j) = bk (pre ++ inner) (g inner j) (pre.length + j) := by
          rw [hcat, ← List.append_assoc]
          exact bk_leftL (by rw [List.length_append]; omega)
        rw [e1, bk_right]
        by_cases z : bk inner (g inner j) j = 0
        · rw [if_pos z, z, Nat.add_zero]
          rw [e1, bk_right, if_pos z] at a
          have := bk_le pre (g inner j) pre.length
          omega
        · rw [if_neg z]
      rw [hb] at a
      omega
    have hlast : ∀ k', k' + 1 = pre.length → (r : Int) ≤ g pre k' := fun k' hk' => by
      have := bk_ge (xs := ys) (e := (r : Int)) (f := k) (by omega)
      rw [show bk ys (r : Int) k - 1 = k' by omega] at this
      rw [hcat, g_leftL (by omega)] at this
      exact this
    obtain ⟨ni, hni⟩ := st_ex m inner 1 (by omega) (Nat.le_refl 1) his fun k' hk' => by
      have Li : Lam inner := by rw [← his]; exact spans_lam inner
      exact Li.lo k' (by omega)
    obtain ⟨np, hnp⟩ := st_ex m pre r (by omega) (by omega) hps hlast
    have hlr := hl k (by omega)
    rw [hr] at hlr
    rw [hcat]
    exact ⟨_, St.cons h1 (by omega) hni (by omega) hnp⟩
end Sx

set_option Elab.async false
set_option linter.all false
namespace Sx
/-! ### all span rows, ascending -/
/-- how they go on: p of the m roots so far are covered, p from 0 up to below t -/
def goOn (F : List Int → List (List Int)) (ts : List Int) : Nat → List (List Int)
  | 0 => []
  | p + 1 => goOn F ts p ++ (F (ts.take (ts.length - p) ++ [1 + (ts.drop (ts.length - p)).sum])).map fun es => (1 + (ts.drop (ts.length - p)).sum) :: es
def allF : Nat → List Int → List (List Int)
  | 0, _ => [[]]
  | l + 1, ts => goOn (allF l) ts (ts.length + 1)
theorem goOn_len {l : Nat} (ih : ∀ ts, (allF l ts).length = wys l ts.length) (ts : List Int) : ∀ p, p ≤ ts.length + 1 → (goOn (allF l) ts p).length = addN l ts.length p
  | 0, _ => rfl
  | p + 1, h => by
    show (goOn (allF l) ts p ++ _).length = addN l ts.length p + wys l (ts.length - p + 1)
    rw [List.length_append, goOn_len ih ts p (by omega), List.length_map, ih, List.length_append, List.length_take]
    congr 2
    show min (ts.length - p) ts.length + 1 = _
    omega
theorem allF_len : ∀ (l : Nat) (ts : List Int), (allF l ts).length = wys l ts.length
  | 0, _ => rfl
  | l + 1, ts => by
    show (goOn (allF l) ts (ts.length + 1)).length = _
    rw [goOn_len (allF_len l) ts _ (Nat.le_refl _), cnt_all]
theorem goOn_at {l : Nat} {ts es : List Int} {k r : Nat} (hk : k ≤ ts.length) (h : (allF l (ts.take k ++ [1 + (ts.drop k).sum]))[r]? = some es) : ∀ p, ts.length - k < p → p ≤ ts.length + 1 →
    (goOn (allF l) ts p)[addN l ts.length (ts.length - k) + r]? = some ((1 + (ts.drop k).sum) :: es)
  | 0, h1, _ => absurd h1 (Nat.not_lt_zero _)
  | p + 1, h1, h2 => by
    show (goOn (allF l) ts p ++ _)[_]? = _
    have hl := goOn_len (allF_len l) ts p (by omega)
    by_cases c : ts.length - k = p
    · subst c
      rw [List.getElem?_append_right (by omega), hl, Nat.add_sub_cancel_left, show ts.length - (ts.length - k) = k by omega, List.getElem?_map, h]
      rfl
    · have ih := goOn_at hk h p (by omega) (by omega)
      rw [List.getElem?_append_left]
      · exact ih
      · exact (List.getElem?_eq_some_iff.mp ih).1
theorem Rk.all {ts es : List Int} {r : Nat} (h : Rk ts es r) : (allF es.length ts)[r]? = some es := by
  induction h with
  | nil => rfl
  | @cons ts es e k r hk he h ih =>
    subst he
    exact goOn_at hk ih _ (by omega) (Nat.le_refl _)
end Sx

set_option Elab.async false
set_option linter.all false
set_option maxRecDepth 100000
namespace Sx
open PySem PySem.W PySem.Calls PyProof.Rows PyProof.V PySem.Spec L2
/-! ### lists of rows of ints in the heap, sorted; tables by rows -/
/-- every address holds its row -/
def TpR (H : Hp) (us : List (Addr × List Int)) : Prop := ∀ u ∈ us, H u.1 = some (.tup (u.2.map V.int))
theorem TpR.ex {H H' : Hp} {us : List (Addr × List Int)} (h : TpR H us) (X : Ex H H') : TpR H' us := fun u hu => X _ _ (h u hu)
theorem TpR.mut {H : Hp} {us : List (Addr × List Int)} {a : Addr} {o o' : HO} (h : TpR H us) (ha : H a = some o') (hn : ∀ vs, o' ≠ .tup vs) : TpR (upd H a o) us := fun u hu => by
  rw [upd_ne (fun e => by rw [← e, h u hu] at ha; exact hn _ (Option.some.inj ha).symm)]; exact h u hu
def refs (us : List (Addr × List Int)) : List V := us.map fun u => V.ref u.1
def ktO (H : Hp) (t : Addr) : List Int := match H t with
  | some (.tup vs) => vs.map fun v => match v with | .int i => i | _ => 0
  | _ => []
theorem ktO_eq {H : Hp} {t : Addr} {xs : List Int} (h : H t = some (.tup (xs.map V.int))) : ktO H t = xs := by
  unfold ktO
  rw [h]
  show (xs.map V.int).map _ = xs
  rw [List.map_map]
  exact (List.map_congr_left fun x _ => rfl).trans (List.map_id xs)
theorem sortedTT_of {K : PySem.W.Frag} {H : Hp} {Q : VK} {a : Addr} {us : List (Addr × List Int)} (hs : SqL K H a (refs us)) (hu : TpR H us) (hn : ∀ u ∈ us, u.2 ≠ [])
    (q : ∀ (ws : List (Addr × List Int)) p, (ws.map (·.2)).Perm (us.map (·.2)) → (ws.map (·.2)).Pairwise (fun x y => HT.lexLt y x = false) → TpR H ws → H p = none → Q (.ref p) (upd H p (.lst (refs ws)))) :
    rSortedTT K [.ref a] H Q := by
  refine ⟨a, us.map (·.1), ktO H, rfl, by rw [List.map_map]; exact hs, fun t ht => ?_, fun vs p hp hsrt hpn => ?_⟩
  · obtain ⟨u, hu', rfl⟩ := List.mem_map.mp ht
    rw [ktO_eq (hu u hu')]
    exact ⟨SqT.of (hu u hu'), hn u hu'⟩
  · have e1 : (vs.map fun t => (t, ktO H t)).map (·.2) = vs.map (ktO H) := by rw [List.map_map]; rfl
    have e2 : refs (vs.map fun t => (t, ktO H t)) = vs.map V.ref := by unfold refs; rw [List.map_map]; rfl
    have := q (vs.map fun t => (t, ktO H t)) p ?_ ?_ ?_ hpn
    · rw [e2] at this; exact this
    · rw [e1]
      have h1 := hp.map (ktO H)
      rw [List.map_map] at h1
      have h2 : us.map (ktO H ∘ fun u => u.1) = us.map (·.2) := List.map_congr_left fun u hu' => ktO_eq (hu u hu')
      rwa [h2] at h1
    · rw [e1, List.pairwise_map]; exact hsrt
    · intro u hu'
      obtain ⟨t, ht, rfl⟩ := List.mem_map.mp hu'
      obtain ⟨u, hu2, rfl⟩ := List.mem_map.mp (hp.mem_iff.mp ht)
      show H u.1 = some (.tup ((ktO H u.1).map V.int))
      rw [ktO_eq (hu u hu2)]
      exact hu u hu2
theorem lex_anti : ∀ xs ys : List Int, HT.lexLt xs ys = false → HT.lexLt ys xs = false → xs = ys
  | [], [], _, _ => rfl
  | [], _ :: _, h, _ => by cases h
  | _ :: _, [], _, h => by cases h
  | x :: xs, y :: ys, h1, h2 => by
    rw [HT.lexLt_cons] at h1 h2
    by_cases c : x = y
    · subst c
      rw [if_pos rfl] at h1 h2
      rw [lex_anti xs ys h1 h2]
    · rw [if_neg c] at h1
      rw [if_neg (Ne.symm c)] at h2
      have h1 := of_decide_eq_false h1
      have h2 := of_decide_eq_false h2
      omega
theorem sorted_same : ∀ {as bs : List (List Int)}, as.Pairwise (fun x y => HT.lexLt y x = false) → bs.Pairwise (fun x y => HT.lexLt y x = false) → as.Perm bs → as = bs
  | [], bs, _, _, h => (List.nil_perm.mp h).symm
  | a :: as, [], _, _, h => absurd h.length_eq (by simp)
  | a :: as, b :: bs, ha, hb, h => by
    obtain ⟨ha1, ha2⟩ := List.pairwise_cons.mp ha
    obtain ⟨hb1, hb2⟩ := List.pairwise_cons.mp hb
    have e : a = b := by
      rcases List.mem_cons.mp (h.mem_iff.mp (List.mem_cons_self ..)) with e | e
      · exact e
      · rcases List.mem_cons.mp (h.mem_iff.mpr (List.mem_cons_self (a := b) (l := bs))) with e2 | e2
        · exact e2.symm
        · exact lex_anti _ _ (hb1 a e |> fun h => h) (ha1 b e2) |> fun h => h
    subst e
    rw [sorted_same ha2 hb2 (List.Perm.cons_inv h)]
theorem rows_same {as bs : List (List Int)} (ha : as.Pairwise (fun x y => HT.lexLt y x = false)) (hb : bs.Pairwise (fun x y => HT.lexLt y x = false)) (na : as.Nodup) (nb : bs.Nodup) (h : ∀ x, x ∈ as ↔ x ∈ bs) : as = bs :=
  sorted_same ha hb ((List.perm_ext_iff_of_nodup na nb).mpr h)
def rowsD2 (L : List (List Int)) : PyData := .list (L.map fun l => .tuple (l.map PyData.int))
theorem rowsD2_sh (L : List (List Int)) : Sh (rowsD2 L) 2 := Sh.lst fun d hd => by
  obtain ⟨j, _, rfl⟩ := List.mem_map.mp hd
  exact Sh.row _
theorem dp_refs {K : PySem.W.Frag} {H : Hp} : ∀ {us : List (Addr × List Int)}, TpR H us → DpAll K H (refs us) ((us.map (·.2)).map fun l => .tuple (l.map PyData.int))
  | [], _ => .nil
  | u :: us, h => .cons (.tup (SqT.of (h u (List.mem_cons_self ..))) (dp_ints _)) (dp_refs fun x hx => h x (List.mem_cons_of_mem _ hx))
/-! tables: rows with numbers -/
abbrev Tb := List (List Int × Int)
def encE (e : List Int × Int) : List L2.Key × V := (e.1.map Sum.inl, V.int e.2)
def encT (D : Tb) : List (List L2.Key × V) := D.map encE
def dGet (D : Tb) (l : List Int) : Int := ((D.find? fun e => decide (e.1 = l)).map (·.2)).getD 0
def dPut : Tb → List Int → Tb
  | [], l => [(l, 1)]
  | e :: D, l => if e.1 = l then (e.1, e.2 + 1) :: D else e :: dPut D l
theorem inl_inj {a b : List Int} (h : a.map (Sum.inl : Int → L2.Key) = b.map Sum.inl) : a = b := by
  have := List.map_inj_right (f := (Sum.inl : Int → L2.Key)) (fun x y h => Sum.inl.inj h) |>.mp h
  exact this
theorem enc_get (D : Tb) (l : List Int) : (valV (encT D) (l.map Sum.inl)).getD (V.int 0) = V.int (dGet D l) := by
  induction D with
  | nil => rfl
  | cons e D ih =>
    by_cases c : e.1 = l
    · have h1 : valV (encT (e :: D)) (l.map Sum.inl) = some (V.int e.2) := valV_pos (p := encE e) (show e.1.map Sum.inl = _ by rw [c])
      rw [h1]
      unfold dGet
      rw [List.find?_cons, decide_eq_true c]; rfl
    · have h1 : valV (encT (e :: D)) (l.map Sum.inl) = valV (encT D) (l.map Sum.inl) := valV_neg (p := encE e) (fun h => c (inl_inj h))
      rw [h1, ih]
      unfold dGet
      rw [List.find?_cons, decide_eq_false c]
theorem put_none {κ : Type} [DecidableEq κ] : ∀ {kvs : List (κ × V)} {k : κ} {v : V}, (∀ e ∈ kvs, e.1 ≠ k) → kvs.map (fun kv => if kv.1 = k then (kv.1, v) else kv) = kvs
  | [], _, _, _ => rfl
  | e :: kvs, k, v, h => by
    rw [List.map_cons, if_neg (h e (List.mem_cons_self ..)), put_none fun x hx => h x (List.mem_cons_of_mem _ hx)]
theorem enc_put : ∀ (D : Tb) (l : List Int), (D.map (·.1)).Nodup → putK (encT D) (l.map Sum.inl) (V.int (dGet D l + 1)) = encT (dPut D l)
  | [], l, _ => rfl
  | e :: D, l, hn => by
    obtain ⟨n1, n2⟩ := List.nodup_cons.mp (show (e.1 :: D.map (·.1)).Nodup from hn)
    by_cases c : e.1 = l
    · have hg : dGet (e :: D) l = e.2 := by unfold dGet; rw [List.find?_cons, decide_eq_true c]; rfl
      have hyes : (encE e).1 = l.map Sum.inl := by unfold encE; rw [c]
      have hp : dPut (e :: D) l = (e.1, e.2 + 1) :: D := if_pos c
      rw [hg, hp]
      unfold putK
      have ha : ((encT (e :: D)).any fun kv => decide (kv.1 = l.map Sum.inl)) = true := by
        show (decide ((encE e).1 = l.map Sum.inl) || _) = true
        rw [decide_eq_true hyes, Bool.true_or]
      rw [if_pos ha]
      show (if (encE e).1 = l.map Sum.inl then _ else _) :: (encT D).map _ = encE (e.1, e.2 + 1) :: encT D
      rw [if_pos hyes, put_none]
      · rfl
      · intro x hx
        obtain ⟨y, hy, rfl⟩ := List.mem_map.mp hx
        intro h
        have := inl_inj h
        exact n1 (by rw [c, ← this]; exact List.mem_map_of_mem hy)
    · have ih := enc_put D l n2
      have hg : dGet (e :: D) l = dGet D l := by unfold dGet; rw [List.find?_cons, decide_eq_false c]
      have hp : dPut (e :: D) l = e :: dPut D l := if_neg c
      have hne : ¬ (encE e).1 = l.map Sum.inl := fun h => c (inl_inj h)
      rw [hg, hp]
      show _ = encE e :: encT (dPut D l)
      rw [← ih]
      unfold putK
      have ha : ((encT (e :: D)).any fun kv => decide (kv.1 = l.map Sum.inl)) = ((encT D).any fun kv => decide (kv.1 = l.map Sum.inl)) := by
        show (decide ((encE e).1 = l.map Sum.inl) || _) = _
        rw [decide_eq_false hne, Bool.false_or]; rfl
      rw [ha]
      by_cases q : ((encT D).any fun kv => decide (kv.1 = l.map Sum.inl)) = true
      · rw [if_pos q, if_pos q]
        show (if (encE e).1 = l.map Sum.inl then _ else _) :: _ = _
        rw [if_neg hne]; rfl
      · rw [if_neg q, if_neg q]; rfl
theorem put_mem : ∀ (D : Tb) (l x : List Int), x ∈ (dPut D l).map (·.1) ↔ x = l ∨ x ∈ D.map (·.1)
  | [], l, x => by show x ∈ [l] ↔ x = l ∨ x ∈ []; simp
  | e :: D, l, x => by
    by_cases c : e.1 = l
    · rw [show dPut (e :: D) l = (e.1, e.2 + 1) :: D from if_pos c]
      show x ∈ e.1 :: D.map (·.1) ↔ x = l ∨ x ∈ e.1 :: D.map (·.1)
      rw [List.mem_cons, c]
      constructor
      · exact .inr
      · rintro (h | h)
        · exact .inl h
        · exact h
    · rw [show dPut (e :: D) l = e :: dPut D l from if_neg c]
      show x ∈ e.1 :: (dPut D l).map (·.1) ↔ x = l ∨ x ∈ e.1 :: D.map (·.1)
      rw [List.mem_cons, List.mem_cons, put_mem D l x]
      constructor
      · rintro (h | h | h)
        · exact .inr (.inl h)
        · exact .inl h
        · exact .inr (.inr h)
      · rintro (h | h | h)
        · exact .inr (.inl h)
        · exact .inl h
        · exact .inr (.inr h)
theorem put_nodup : ∀ (D : Tb) (l : List Int), (D.map (·.1)).Nodup → ((dPut D l).map (·.1)).Nodup
  | [], l, _ => by show [l].Nodup; simp
  | e :: D, l, h => by
    obtain ⟨n1, n2⟩ := List.nodup_cons.mp (show (e.1 :: D.map (·.1)).Nodup from h)
    by_cases c : e.1 = l
    · rw [show dPut (e :: D) l = (e.1, e.2 + 1) :: D from if_pos c]
      exact h
    · rw [show dPut (e :: D) l = e :: dPut D l from if_neg c]
      show (e.1 :: (dPut D l).map (·.1)).Nodup
      refine List.nodup_cons.mpr ⟨fun h => ?_, put_nodup D l n2⟩
      rcases (put_mem D l e.1).mp h with h | h
      · exact c h
      · exact n1 h
theorem put_sum : ∀ (D : Tb) (l : List Int), ((dPut D l).map (·.2)).sum = (D.map (·.2)).sum + 1
  | [], l => rfl
  | e :: D, l => by
    by_cases c : e.1 = l
    · rw [show dPut (e :: D) l = (e.1, e.2 + 1) :: D from if_pos c]
      show (e.2 + 1) + (D.map (·.2)).sum = e.2 + (D.map (·.2)).sum + 1
      omega
    · rw [show dPut (e :: D) l = e :: dPut D l from if_neg c]
      show e.2 + ((dPut D l).map (·.2)).sum = e.2 + (D.map (·.2)).sum + 1
      rw [put_sum D l]; omega
theorem dPut_len (D : Tb) (l : List Int) : (dPut D l).length ≤ D.length + 1 := by
  induction D with
  | nil => exact Nat.le_refl _
  | cons e D ih =>
    by_cases c : e.1 = l
    · rw [show dPut (e :: D) l = (e.1, e.2 + 1) :: D from if_pos c]; simp
    · rw [show dPut (e :: D) l = e :: dPut D l from if_neg c]
      show (dPut D l).length + 1 ≤ D.length + 1 + 1
      omega
theorem enc_keys (D : Tb) : (encT D).map (·.1) = (D.map (·.1)).map fun l => l.map Sum.inl := by unfold encT; rw [List.map_map, List.map_map]; rfl
theorem enc_vals (D : Tb) : (encT D).map (·.2) = (D.map (·.2)).map V.int := by unfold encT; rw [List.map_map, List.map_map]; rfl
end Sx

set_option Elab.async false
set_option linter.all false
set_option maxRecDepth 100000
namespace Sx
open PySem PySem.Spec
open PyProof.Rows L2
/-! ### data with empty dicts, and without lists -/
mutual
inductive Dz (K : PySem.W.Frag) (H : Hp) : V → PyData → Prop
  | non : Dz K H .non .none
  | bl (b : Bool) : Dz K H (.bl b) (.bool b)
  | int (i : Int) : Dz K H (.int i) (.int i)
  | str (x : Str) : Dz K H (.str x) (.str x)
  | dic {a : Addr} : H a = some (.dK []) → Dz K H (.ref a) (.dict [])
  | tup {a : Addr} {xs : List V} {ds : List PyData} : SqT K H a xs → DzAll K H xs ds → Dz K H (.ref a) (.tuple ds)
inductive DzAll (K : PySem.W.Frag) (H : Hp) : List V → List PyData → Prop
  | nil : DzAll K H [] []
  | cons {v : V} {vs : List V} {d : PyData} {ds : List PyData} : Dz K H v d → DzAll K H vs ds → DzAll K H (v :: vs) (d :: ds)
end
section
variable {X : Cx} {pins : List (Addr × Obj)} {σ : L2.St} {H : Hp} {s : Shared}
mutual
theorem Dz.reads (I : Inv X pins σ H s) : ∀ (d : PyData) (v : V) (u : Value), Dz X.K H v d → RelV v u → ∃ as, Reads s.heap u d as ∧ sysModules ∉ as
  | .none, _, _, h, r => by
    cases h
    cases r
    exact ⟨_, Reads.none, List.not_mem_nil⟩
  | .bool b, _, _, h, r => by
    cases h
    cases r
    exact ⟨_, Reads.bool b, List.not_mem_nil⟩
  | .int i, _, _, h, r => by
    cases h
    obtain ⟨t, rfl⟩ := r
    exact ⟨_, Reads.int i t, List.not_mem_nil⟩
  | .str x, _, _, h, r => by
    cases h
    obtain ⟨t, rfl⟩ := r
    exact ⟨_, Reads.str x t, List.not_mem_nil⟩
  | .list ds, _, _, h, r => by cases h
  | .tuple ds, _, _, h, r => by
    cases h with
    | tup hs ha =>
      cases r
      obtain ⟨its, rv, ⟨o, ho, hc, n, hd⟩, _⟩ := I.tuple hs
      obtain ⟨as, hr, hn⟩ := Dz.readsAll I ds _ its ha rv
      exact ⟨_, Reads.tuple ho hc hd hr, hn⟩
  | .dict kvs, _, _, h, r => by
    cases h with
    | @dic a ea =>
      cases r
      obtain ⟨_, hne, vs, kv, o, es, ep, h1, h2, h3, _, h4, _⟩ := (show ObjOk X.prog X.w H s.heap a (.dK []) from I.hok a _ ea)
      have e0 : es.toList = [] := by
        cases kv
        generalize es.toList = l at h4
        cases h4
        rfl
      refine ⟨_, Reads.dict (as := []) (bs := []) h1 h2.1 h3 (by rw [e0]; exact ReadsAll.nil) (by rw [e0]; exact ReadsAll.nil), fun hm => ?_⟩
      simp only [List.append_nil, List.mem_cons, List.not_mem_nil, or_false] at hm
      rw [← hm] at hne
      exact absurd hne (by decide)
theorem Dz.readsAll (I : Inv X pins σ H s) : ∀ (ds : List PyData) (vs : List V) (us : List Value), DzAll X.K H vs ds → Vals vs us → ∃ as, ReadsAll s.heap us ds as ∧ sysModules ∉ as
  | [], _, _, h, r => by
    cases h
    cases r
    exact ⟨_, ReadsAll.nil, List.not_mem_nil⟩
  | d :: ds, _, _, h, r => by
    cases h with
    | cons h1 h2 =>
      cases r with
      | cons r1 r2 =>
        obtain ⟨as, q1, n1⟩ := Dz.reads I d _ _ h1 r1
        obtain ⟨bs, q2, n2⟩ := Dz.readsAll I ds _ _ h2 r2
        exact ⟨_, ReadsAll.cons q1 q2, fun hm => (List.mem_append.mp hm).elim n1 n2⟩
end
/-- repr of data, with empty dicts -/
def rReprZ (K : PySem.W.Frag) : List V → Hp → VK → Prop := fun vs H Q =>
  ∃ v d, vs = [v] ∧ (Dp K H v d ∨ Dz K H v d) ∧ Shw d ∧ Q (.str d.shown) H
theorem call_reprZ {k : Nat} (hG : X.A.guards = some []) (hr : Room k X.A) : CallR X (.builtin "repr") (rReprZ X.K) := by
  intro pins s σ H vs us Q I r h
  obtain ⟨v, d, rfl, hd | hd, ⟨hs, hdp, hz⟩, q⟩ := h
  · exact call_reprD hG hr pins s σ H [v] us Q I r ⟨v, d, rfl, hd, ⟨hs, hdp, hz⟩, q⟩
  have hun := hr.un
  cases r with
  | cons ru rr =>
    cases rr
    rename_i u
    have big : ∀ (a : Addr), v = .ref a → (∃ as, Reads s.heap (.ref a) d as ∧ sysModules ∉ as) →
        wpAny (model X.prog X.w) X.A (call (.builtin "repr") [.ref a]) (EP X pins σ Q) X.xe s := by
      intro a _ ⟨as, rd, hn⟩
      exact repr_of_reads' rd hs (fun _ => hn) hG (by omega) (fun _ _ e => e)
        (fun h' u tk hk => ⟨.str _, H, I.kept hk, ⟨_, rfl⟩, q⟩) hz
    cases hd with
    | non => cases (show u = Value.none from ru); exact PySem.P.repr_of_none ⟨.str _, H, I.tok _, ⟨_, rfl⟩, q⟩
    | bl b => cases (show u = Value.bool b from ru); exact PySem.P.repr_of_bool ⟨.str _, H, I.tok _, ⟨_, rfl⟩, q⟩
    | int i =>
      obtain ⟨t, e⟩ := (show ∃ t, u = Value.int i t from ru)
      cases e
      exact PySem.P.repr_of_int (by simpa [PyData.showable] using hs) ⟨.str _, H, I.tok _, ⟨_, rfl⟩, q⟩
    | str x =>
      obtain ⟨t, e⟩ := (show ∃ t, u = Value.str x t from ru)
      cases e
      exact PySem.P.repr_of_str ⟨.str _, H, I.tok _, ⟨_, rfl⟩, q⟩ hz
    | @dic a ha =>
      cases (show u = Value.ref a from ru)
      exact big a rfl (Dz.reads I _ _ _ (.dic ha) rfl)
    | @tup a xs ds hl ha =>
      cases (show u = Value.ref a from ru)
      exact big a rfl (Dz.reads I _ _ _ (.tup hl ha) rfl)
end
end Sx

set_option Elab.async false
set_option linter.all false
set_option maxRecDepth 100000
set_option maxHeartbeats 1000000
namespace Sx
open PySem PySem.Spec
open PyProof.Rows L2
/-! ### t[::-1], t a tuple -/
section
variable {prog : Program} {w : World} {A : Around} {E : Value → Shared → Prop} {s : Shared}
theorem adj_rev (n : Nat) : Builtin.Slice.sliceAdjust none none (-1) (n : Int) = ((n : Int) - 1, -1) := rfl
theorem places_rev (n : Nat) : Builtin.Slice.slicePlaces ((n : Int) - 1) (-1) (-1) = n := by
  unfold Builtin.Slice.slicePlaces
  rw [if_neg (by decide)]
  by_cases c : n = 0
  · subst c; rfl
  · rw [if_pos (by omega), show (-(-1) : Int) = 1 from rfl, Int.ediv_one]
    omega
theorem applied_rev {sl : Addr} {vl vu vs : Value} {n : Nat} {Q : Int × Int × Nat → Shared → Prop} (hs : s.heap.IsSliceOf sl vl vu vs) (pl : IsPart vl none) (pu : IsPart vu none) (ps : IsPart vs (some (-1)))
    (h : Q ((n : Int) - 1, -1, n) s) : wpAny (model prog w) A (Builtin.Slice.sliceApplied (.ref sl) (pure (n : Int))) Q E s := by
  obtain ⟨os, hos, hcs, hds⟩ := id hs
  unfold Builtin.Slice.sliceApplied Builtin.Slice.sliceFields
  refine wpAny_bind (wpAny_bind (wpAny_field hos hds (x := vl) rfl (wpAny_bind (wpAny_field hos hds (x := vu) rfl (wpAny_bind (wpAny_field hos hds (x := vs) rfl (wpAny_pure ?_)))))))
  refine wpAny_bind (HT.slicePart_ ps ?_)
  show wpAny _ _ (if ((-1 : Int) == 0) = true then _ else _) _ _ s
  rw [if_neg (by decide)]
  refine wpAny_bind (HT.slicePart_ pl (wpAny_bind (HT.slicePart_ pu (wpAny_bind (wpAny_pure ?_)))))
  show wpAny _ _ (match Builtin.Slice.sliceAdjust none none (-1) (n : Int) with | (lo, hi) => pure (lo, (-1 : Int), Builtin.Slice.slicePlaces lo hi (-1))) _ _ s
  rw [adj_rev]
  show wpAny _ _ (pure ((n : Int) - 1, (-1 : Int), Builtin.Slice.slicePlaces ((n : Int) - 1) (-1) (-1))) _ _ s
  rw [places_rev]
  exact wpAny_pure h
theorem fm_congr {α β : Type} {f h : α → Option β} : ∀ {l : List α}, (∀ x ∈ l, f x = h x) → l.filterMap f = l.filterMap h
  | [], _ => rfl
  | x :: l, e => by
    rw [List.filterMap_cons, List.filterMap_cons, e x List.mem_cons_self, fm_congr (l := l) fun y hy => e y (List.mem_cons_of_mem _ hy)]
theorem pick_rev (xs : Array Value) : ((List.range xs.size).filterMap fun (m : Nat) => xs[(((xs.size : Int) - 1) + (m : Int) * -1).toNat]?).toArray = xs.toList.reverse.toArray := by
  rw [← PySem.W.krv_all xs, ← List.filterMap_reverse, ← PySem.W.krv_range, List.filterMap_map]
  congr 1
  apply fm_congr
  intro m hm
  have := List.mem_range.mp hm
  show _ = xs[xs.size - 1 - m]?
  rw [show (((xs.size : Int) - 1) + (m : Int) * -1).toNat = xs.size - 1 - m by omega]
theorem getItem_tuple_rev {t sl : Addr} {items : Array Value} {vl vu vs : Value} {Q : Value → Shared → Prop} (ht : IsTup s.heap t items) (hs : s.heap.IsSliceOf sl vl vu vs) (pl : IsPart vl none) (pu : IsPart vu none) (ps : IsPart vs (some (-1)))
    (h : Q (.ref s.heap.objs.size) { s with heap := s.heap.push { cls := .type "tuple", data := .seq items.toList.reverse.toArray } })
    (hsz : items.size ≤ sizeLine) : wpAny (model prog w) A (getItem (.ref t) (.ref sl)) Q E s := by
  have hz : sizeOk (.seq items.toList.reverse.toArray) := by
    show items.toList.reverse.toArray.size ≤ sizeLine
    rw [List.size_toArray, List.length_reverse, Array.length_toList]; exact hsz
  obtain ⟨os, hos, hcs, hds⟩ := id hs
  have hTs : s.TypeIs (.ref sl) "slice" := ⟨os, hos, hcs⟩
  unfold getItem
  try with_reducible refine wpAny_holding ?_
  first | refine wpAny_bind (wpAny_pure ?_) | skip
  refine wpAny_bind (wpAny_sequenceKey ht.typeIs (by decide) ?_)
  refine wpAny_bind (wpAny_callSpecial?_slot (name := Str.ofString "__getitem__") ht.typeIs PyProof.Rows.slot_tuple_getitem
    (wpAny_call_entry PyProof.Rows.slot_tuple_getitem ht.typeIs entry_tuple_getitem ?_ (args_tuple_getitem _ _)))
  show wpAny _ _ (Builtin.Tuple.tupleItemsOf (.ref t) >>= _) _ _ s
  refine wpAny_bind (tupleItemsOf_ ht ?_)
  refine wpAny_bind (wpAny_typeOf hTs ?_)
  rw [if_pos (by decide)]
  refine wpAny_bind (applied_rev hs pl pu ps ?_)
  have hno : ¬ ((((items.size : Int) - 1) == 0 && (-1 : Int) == 1 && items.size == items.size) = true) := by
    rw [show ((-1 : Int) == 1) = false by decide, Bool.and_false, Bool.false_and]; decide
  show wpAny _ _ (if (((items.size : Int) - 1) == 0 && (-1 : Int) == 1 && items.size == items.size) = true then _ else _) _ _ s
  rw [if_neg hno, pick_rev]
  first
    | exact wpAny_bind (m := Builtin.Tuple.tupleExact _) (wpAny_newObj_type (wpAny_pure ⟨_, rfl, wpAny_pure h⟩) hz)
    | exact wpAny_bind (m := Builtin.Tuple.tupleExact _) (wpAny_newObj_type (wpAny_bind (wpAny_pure (wpAny_pure ⟨_, rfl, wpAny_pure h⟩))) hz)
    | exact wpAny_bind (wpAny_bind (m := Builtin.Tuple.tupleExact _) (wpAny_newObj_type (wpAny_pure (wpAny_pure ⟨_, rfl, wpAny_pure h⟩)) hz))
    | exact wpAny_bind (wpAny_bind (m := Builtin.Tuple.tupleExact _) (wpAny_newObj_type (wpAny_pure ⟨_, rfl, wpAny_pure h⟩) hz))
end
section
variable {X : Cx}
def tRevT (K : PySem.W.Frag) (te : TE) : TE := fun σ H Q => te σ H fun x H1 => ∃ a xs, x = .ref a ∧ SqT K H1 a xs ∧ ∀ p, H1 p = none → Q (.ref p) (upd H1 p (.tup xs.reverse))
theorem pe_revT {e : Expr} {te : TE} {k : Nat} {p1 p2 p3 pos : Pos} (he : PE X e te) : PE X (.Subscript e (.Slice none none (some (.UnaryOp .USub (.Constant (.int 1) k p1) p2)) p3) pos) (tRevT X.K te) := by
  refine ⟨fun pins s σ H Q I h => ?_⟩
  refine Subscript_ (thn (he.run pins s σ H _ I h) fun v s1 ⟨x, H1, I1, r1, a, xs, ex, hx, q⟩ => ?_)
  subst ex
  cases r1
  have hst : PO X (some (.UnaryOp .USub (.Constant (.int 1) k p1) p2)) (tPart (tUn (rU fun i => .int (-i)) (tC (.int 1)))) := po_some (pe_un un_neg pe_int)
  refine wpAny_Slice (thn (po_none.run pins s1 σ H1 (fun o H2 => o = none ∧ H2 = H1) I1 ⟨rfl, rfl⟩) fun vl s2 ⟨l, H2, I2, pl, el, e2⟩ => ?_)
  subst el e2
  refine thn (po_none.run pins s2 σ H2 (fun o H3 => o = none ∧ H3 = H2) I2 ⟨rfl, rfl⟩) fun vu s3 ⟨u, H3, I3, pu, eu, e3⟩ => ?_
  subst eu e3
  refine thn (hst.run pins s3 σ H3 (fun o H4 => o = some (-1) ∧ H4 = H3) I3 ⟨1, rfl, -1, rfl, rfl, rfl⟩) fun vs s4 ⟨o, H4, I4, ps, eo, e4⟩ => ?_
  subst eo e4
  have I5 : Inv X pins σ H4 { s4 with heap := s4.heap.push { cls := .type "slice", data := .fields #[vl, vu, vs] } } := I4.kept (t' := s4.toks) fun b ob q => Heap.get?_push_of_some _ q
  obtain ⟨its, r, ht, hz⟩ := I5.tuple hx
  have hlen := r.length
  show wpAny (model X.prog X.w) X.A (subscriptTail e (.Slice none none (some (.UnaryOp .USub (.Constant (.int 1) k p1) p2)) p3) (.ref a) (.ref s4.heap.objs.size)) (EP X pins σ Q) X.xe { s4 with heap := s4.heap.push { cls := .type "slice", data := .fields #[vl, vu, vs] } }
  refine tail_any (ops := [.ref a, .ref s4.heap.objs.size]) ht.typeIs (PyProof.Rows.slot_tuple_getitem.lookup) ?_ (by with_unfolding_all rfl)
  refine getItem_tuple_rev ht (Heap.IsSliceOf.new _ vl vu vs) pl pu ps ?_ (by rw [List.size_toArray]; omega)
  refine ⟨.ref _, _, I5.laid (t' := s4.toks) (o := .tup xs.reverse) (fun b ob q => Heap.get?_push_of_some _ q) (Nat.le_refl _) ?_, rfl, q _ (I5.hok.fresh (Nat.le_refl _))⟩
  exact ⟨by rw [List.length_reverse]; exact hz, its.reverse, r.reverse, by
    refine ⟨_, Heap.get?_push_size _ rfl, rfl, 0, ?_⟩
    rfl⟩
end
end Sx

set_option Elab.async false
set_option linter.all false
set_option maxRecDepth 100000
namespace Sx
open PySem PySem.W PySem.Calls PyProof.Rows PyProof.V PySem.Spec L2
/-! ### all span rows, place by place: rows with their roots -/
abbrev RR := List Int × List Int
def grow1 (p : RR) (m : Nat) : RR := (p.1 ++ [1 + (p.2.drop (p.2.length - m)).sum], p.2.take (p.2.length - m) ++ [1 + (p.2.drop (p.2.length - m)).sum])
def growR (p : RR) : List RR := (List.range (p.2.length + 1)).map (grow1 p)
def stepR (L : List RR) : List RR := L.flatMap growR
def rowsR : Nat → List RR
  | 0 => [([], [])]
  | t + 1 => stepR (rowsR t)
theorem rowsR_gr : ∀ t, ∀ p ∈ rowsR t, Gr p.1 p.2 ∧ p.1.length = t ∧ p.2.length ≤ t
  | 0, p, h => by
    rw [List.mem_singleton.mp h]
    exact ⟨Gr.nil, rfl, Nat.le_refl _⟩
  | t + 1, p, h => by
    obtain ⟨q, hq, hp⟩ := List.mem_flatMap.mp h
    obtain ⟨m, hm, rfl⟩ := List.mem_map.mp hp
    obtain ⟨G, hl, hz⟩ := rowsR_gr t q hq
    refine ⟨G.grow (by omega) rfl, ?_, ?_⟩
    · show (q.1 ++ _).length = t + 1
      rw [List.length_append, hl]; rfl
    · show (q.2.take _ ++ _).length ≤ t + 1
      rw [List.length_append, List.length_take]
      show min _ _ + 1 ≤ _
      omega
theorem snoc_ex : ∀ {xs : List Int} {n : Nat}, xs.length = n + 1 → ∃ ys e, xs = ys ++ [e] ∧ ys.length = n := by
  intro xs n h
  have hne : xs ≠ [] := by intro e; rw [e] at h; cases h
  refine ⟨xs.dropLast, xs.getLast hne, (List.dropLast_concat_getLast hne).symm, by rw [List.length_dropLast]; omega⟩
theorem rowsR_mem : ∀ t (xs : List Int), Lam xs → xs.length = t → ∃ ts, (xs, ts) ∈ rowsR t
  | 0, xs, L, h => by
    have e : xs = [] := List.length_eq_zero_iff.mp h
    subst e
    exact ⟨[], List.mem_singleton.mpr rfl⟩
  | t + 1, xs, L, h => by
    obtain ⟨ys, e, rfl, hl⟩ := snoc_ex h
    obtain ⟨ts, hts⟩ := rowsR_mem t ys L.front hl
    obtain ⟨G, _, _⟩ := rowsR_gr t _ hts
    obtain ⟨k, hk, he⟩ := G.pops L
    have hk : k ≤ ts.length := hk
    refine ⟨(grow1 (ys, ts) (ts.length - k)).2, List.mem_flatMap.mpr ⟨(ys, ts), hts, List.mem_map.mpr ⟨ts.length - k, List.mem_range.mpr (by show _ < ts.length + 1; omega), ?_⟩⟩⟩
    refine Prod.ext ?_ rfl
    show ys ++ [1 + (ts.drop (ts.length - (ts.length - k))).sum] = ys ++ [e]
    rw [show ts.length - (ts.length - k) = k by omega, he]
theorem rowsR_iff {n : Nat} (x : List Int) : x ∈ (rowsR n).map (·.1) ↔ Lam x ∧ x.length = n := by
  constructor
  · intro h
    obtain ⟨p, hp, rfl⟩ := List.mem_map.mp h
    obtain ⟨G, hl, _⟩ := rowsR_gr n p hp
    exact ⟨G.lam, hl⟩
  · rintro ⟨L, hl⟩
    obtain ⟨ts, h⟩ := rowsR_mem n x L hl
    exact List.mem_map_of_mem h
theorem rowsR_nd {n : Nat} (h : n ≤ 7) : ((rowsR n).map (·.1)).Nodup := by
  induction n with
  | zero => decide
  | succ t ih =>
    have ih := ih (by omega)
    show ((rowsR t).flatMap growR |>.map (·.1)).Nodup
    unfold List.Nodup
    rw [List.pairwise_map]
    refine List.pairwise_flatMap.mpr ⟨fun p hp => ?_, ?_⟩
    · obtain ⟨G, _, _⟩ := rowsR_gr t p hp
      unfold growR
      rw [List.pairwise_map]
      refine List.pairwise_lt_range.imp_of_mem fun {i j} hi hj hij e => ?_
      have hi := List.mem_range.mp hi
      have hj := List.mem_range.mp hj
      have e2 := List.append_inj_right (show p.1 ++ [_] = p.1 ++ [_] from e) rfl
      have e3 : 1 + (p.2.drop (p.2.length - i)).sum = 1 + (p.2.drop (p.2.length - j)).sum := (List.cons.inj e2).1
      have := drop_sum_inj G.pos (show p.2.length - i ≤ p.2.length by omega) (show p.2.length - j ≤ p.2.length by omega) (by omega)
      omega
    · unfold List.Nodup at ih
      rw [List.pairwise_map] at ih
      refine ih.imp_of_mem fun {p q} hp hq hpq x hx y hy e => ?_
      obtain ⟨i, _, rfl⟩ := List.mem_map.mp hx
      obtain ⟨j, _, rfl⟩ := List.mem_map.mp hy
      have l1 := (rowsR_gr t p hp).2.1
      have l2 := (rowsR_gr t q hq).2.1
      exact hpq (List.append_inj_left (show p.1 ++ [_] = q.1 ++ [_] from e) (by omega))
theorem rowsR_len {n : Nat} (h : n ≤ 7) : (rowsR n).length ≤ 429 := by
  have : n = 0 ∨ n = 1 ∨ n = 2 ∨ n = 3 ∨ n = 4 ∨ n = 5 ∨ n = 6 ∨ n = 7 := by omega
  rcases this with e | e | e | e | e | e | e | e <;> subst e <;> decide +kernel
/-! in the heap -/
structure EnR where
  p : Addr
  a : Addr
  b : Addr
  r : RR
structure EnOk (H : Hp) (e : EnR) : Prop where
  pr : H e.p = some (.tup [.ref e.a, .ref e.b])
  ro : H e.a = some (.tup (e.r.1.map V.int))
  tp : H e.b = some (.tup (e.r.2.map V.int))
theorem EnOk.ex {H H' : Hp} {e : EnR} (h : EnOk H e) (X : Ex H H') : EnOk H' e := ⟨X _ _ h.pr, X _ _ h.ro, X _ _ h.tp⟩
theorem EnOk.mut {H : Hp} {e : EnR} {l : Addr} {vs : List V} {o : HO} (h : EnOk H e) (hl : H l = some (.lst vs)) : EnOk (upd H l o) e := by
  refine ⟨?_, ?_, ?_⟩
  · rw [upd_ne (fun q => by rw [← q, h.pr] at hl; cases hl)]; exact h.pr
  · rw [upd_ne (fun q => by rw [← q, h.ro] at hl; cases hl)]; exact h.ro
  · rw [upd_ne (fun q => by rw [← q, h.tp] at hl; cases hl)]; exact h.tp
def refE (es : List EnR) : List V := es.map fun e => V.ref e.p
theorem cutR_drop (ts : List Int) (k : Nat) (h : k ≤ ts.length) : cutV (ts.map V.int) (some (k : Int)) none = (ts.drop k).map V.int := by
  unfold cutV
  rw [HT.sIx_nat, HT.sIx_none, List.length_map, Nat.min_eq_left h, ← List.map_drop, List.take_of_length_le (by rw [List.length_map, List.length_drop]; exact Nat.le_refl _)]
theorem cutR_take (ts : List Int) (k : Nat) (h : k ≤ ts.length) : cutV (ts.map V.int) none (some (k : Int)) = (ts.take k).map V.int := by
  unfold cutV
  rw [HT.sIx_nat, HT.sIx_none, List.length_map, Nat.min_eq_left h, Nat.sub_zero, List.drop_zero, ← List.map_take]
/-- t + (e,) -/
theorem catA_one {K : PySem.W.Frag} {H : Hp} {a b : Addr} {xs : List Int} {e : Int} {Q : VK} (ha : SqT K H a (xs.map V.int)) (hb : H b = some (.tup [.int e])) (hz : xs.length ≤ 1000)
    (q : ∀ c H', Ex H H' → H' c = some (.tup ((xs ++ [e]).map V.int)) → Q (.ref c) H') : rCatA K (.ref a) (.ref b) H Q := by
  refine ⟨a, b, xs.map V.int, [.int e], rfl, rfl, ha, SqT.of hb, ?_, fun h => ?_, (fun _ h => by cases h), fun h1 _ p hp => ?_⟩
  · rw [List.length_map]; exact small16 (by show xs.length + 1 ≤ 100000; omega)
  · have e0 : xs = [] := List.map_eq_nil_iff.mp h
    subst e0
    exact q b H (Evl.Ex.refl _) hb
  · exact q p _ (Evl.Ex.new hp) (by rw [upd_same, List.map_append]; rfl)
end Sx

set_option Elab.async false
set_option linter.all false
set_option maxRecDepth 100000
namespace Sx
open PySem PySem.W PySem.Calls PyProof.Rows PyProof.V PySem.Spec L2
/-! ### lists of rows by their numbers -/
theorem lexI_eq : ∀ a b : List Int, lexI a b = HT.lexLt a b
  | [], [] => rfl
  | [], _ :: _ => rfl
  | _ :: _, [] => rfl
  | x :: xs, y :: ys => by
    rw [HT.lexLt_cons, ← lexI_eq xs ys]; rfl
theorem lexLt_as : ∀ xs ys : List Int, HT.lexLt xs ys = true → HT.lexLt ys xs = false
  | [], [], h => by cases h
  | [], _ :: _, _ => rfl
  | _ :: _, [], h => by cases h
  | x :: xs, y :: ys, h => by
    rw [HT.lexLt_cons] at h ⊢
    by_cases c : x = y
    · subst c
      rw [if_pos rfl] at h ⊢
      exact lexLt_as xs ys h
    · rw [if_neg c] at h
      rw [if_neg (Ne.symm c)]
      have := of_decide_eq_true h
      exact decide_eq_false (by omega)
/-- the row with number k stands at k -/
def NumR (n : Nat) (L : List (List Int)) : Prop := L.length = wys n 0 ∧ ∀ (k : Nat) x, L[k]? = some x → Rk [] x k ∧ x.length = n
def NumS (n : Nat) (L : List (List Int)) : Prop := L.length = Sg n 1 ∧ ∀ (k : Nat) x, L[k]? = some x → St 1 x k ∧ x.length = n
theorem pair_num {L : List (List Int)} {R : List Int → List Int → Prop} (h : ∀ (i j : Nat) (x y : List Int), i < j → L[i]? = some x → L[j]? = some y → R x y) : L.Pairwise R := by
  rw [List.pairwise_iff_getElem]
  intro i j hi hj hij
  exact h i j _ _ hij (List.getElem?_eq_getElem hi) (List.getElem?_eq_getElem hj)
theorem NumR.srt {n : Nat} {L : List (List Int)} (h : NumR n L) : L.Pairwise fun x y => HT.lexLt y x = false := pair_num fun i j x y hij hx hy => by
  obtain ⟨h1, l1⟩ := h.2 i x hx
  obtain ⟨h2, l2⟩ := h.2 j y hy
  refine lexLt_as _ _ ?_
  rw [← lexI_eq]
  exact (h1.order (fun t h => (List.not_mem_nil h).elim) h2 (l1.trans l2.symm)).1.mpr hij
theorem NumR.nd {n : Nat} {L : List (List Int)} (h : NumR n L) : L.Nodup := pair_num fun i j x y hij hx hy e => by
  subst e
  have := (h.2 i x hx).1.fn (fun t h => (List.not_mem_nil h).elim) (h.2 j x hy).1
  omega
theorem NumR.mem {n : Nat} {L : List (List Int)} (h : NumR n L) (x : List Int) : x ∈ L ↔ Lam x ∧ x.length = n := by
  constructor
  · intro hx
    obtain ⟨k, hk⟩ := List.mem_iff_getElem?.mp hx
    exact ⟨(h.2 k x hk).1.lam, (h.2 k x hk).2⟩
  · rintro ⟨Lm, hn⟩
    obtain ⟨r, hr⟩ := rank_ex Lm
    have h1 := hr.lt
    rw [hn] at h1
    have h2 : r < L.length := by rw [h.1]; exact h1
    obtain ⟨h3, h4⟩ := h.2 r L[r] (List.getElem?_eq_getElem h2)
    have e := (h3.order (fun t h => (List.not_mem_nil h).elim) hr (h4.trans hn.symm)).2.mpr rfl
    rw [← e]
    exact List.getElem_mem h2
theorem rows_num {n : Nat} {L R : List (List Int)} (h7 : n ≤ 7) (h : NumR n L) (hp : R.Perm ((rowsR n).map (·.1))) (hs : R.Pairwise fun x y => HT.lexLt y x = false) : R = L :=
  rows_same hs h.srt (hp.nodup_iff.mpr (rowsR_nd h7)) h.nd fun x => by rw [hp.mem_iff, rowsR_iff, h.mem]
theorem NumS.srt {n : Nat} {L : List (List Int)} (hn : n ≤ 100) (h : NumS n L) : (L.map List.reverse).Pairwise fun x y => HT.lexLt y x = false := by
  rw [List.pairwise_map]
  refine pair_num fun i j x y hij hx hy => ?_
  obtain ⟨h1, l1⟩ := h.2 i x hx
  obtain ⟨h2, l2⟩ := h.2 j y hy
  refine lexLt_as _ _ ?_
  rw [← lexI_eq]
  exact (h1.order h2 (by omega) (l1.trans l2.symm)).1.mpr hij
theorem NumS.nd {n : Nat} {L : List (List Int)} (hn : n ≤ 100) (h : NumS n L) : L.Nodup := pair_num fun i j x y hij hx hy e => by
  subst e
  obtain ⟨h1, l1⟩ := h.2 i x hx
  have := (h1.order (h.2 j x hy).1 (by omega) rfl).2.mp rfl
  omega
theorem NumS.mem {n : Nat} {L : List (List Int)} (n1 : 1 ≤ n) (n2 : n ≤ 100) (h : NumS n L) (x : List Int) : x ∈ L ↔ spans x = x ∧ x.length = n := by
  constructor
  · intro hx
    obtain ⟨k, hk⟩ := List.mem_iff_getElem?.mp hx
    exact ⟨(h.2 k x hk).1.still.1, (h.2 k x hk).2⟩
  · rintro ⟨hs, hn⟩
    have Lm : Lam x := by rw [← hs]; exact spans_lam x
    obtain ⟨r, hr⟩ := st_ex x.length x 1 (Nat.le_refl _) (Nat.le_refl _) hs (fun k hk => by have := Lm.lo k (by omega); omega)
    have h1 := hr.pos (Nat.le_refl _) (by omega)
    rw [hn] at h1
    have h2 : r < L.length := by rw [h.1]; exact h1
    obtain ⟨h3, h4⟩ := h.2 r L[r] (List.getElem?_eq_getElem h2)
    have e := (h3.order hr (by omega) (h4.trans hn.symm)).2.mpr rfl
    rw [← e]
    exact List.getElem_mem h2
abbrev stl (x : List Int) : Bool := decide (spans x = x)
theorem rev_nd {L : List (List Int)} (h : L.Nodup) : (L.map List.reverse).Nodup := by
  unfold List.Nodup at h ⊢
  rw [List.pairwise_map]
  exact h.imp fun hne e => hne (List.reverse_inj.mp e)
/-- the reversed still rows, sorted, are those by number, reversed -/
theorem still_num {n : Nat} {L R Z : List (List Int)} (n1 : 1 ≤ n) (h7 : n ≤ 7) (h : NumS n L) (hR : R.Perm ((rowsR n).map (·.1))) (hp : Z.Perm ((R.filter stl).map List.reverse)) (hs : Z.Pairwise fun x y => HT.lexLt y x = false) : Z.map List.reverse = L := by
  have ndR : (R.filter stl).Nodup := (List.filter_sublist).nodup (hR.nodup_iff.mpr (rowsR_nd h7))
  have e : Z = L.map List.reverse := rows_same hs (h.srt (by omega)) (hp.nodup_iff.mpr (rev_nd ndR)) (rev_nd (h.nd (by omega))) fun x => by
    rw [hp.mem_iff, List.mem_map, List.mem_map]
    constructor
    · rintro ⟨y, hy, rfl⟩
      obtain ⟨h1, h2⟩ := List.mem_filter.mp hy
      rw [hR.mem_iff, rowsR_iff] at h1
      exact ⟨y, (h.mem n1 (by omega) y).mpr ⟨of_decide_eq_true h2, h1.2⟩, rfl⟩
    · rintro ⟨y, hy, rfl⟩
      obtain ⟨h1, h2⟩ := (h.mem n1 (by omega) y).mp hy
      exact ⟨y, List.mem_filter.mpr ⟨hR.mem_iff.mpr ((rowsR_iff y).mpr ⟨by rw [← h1]; exact spans_lam y, h2⟩), decide_eq_true h1⟩, rfl⟩
  rw [e, List.map_map]
  have : (List.reverse ∘ List.reverse : List Int → List Int) = id := funext fun x => List.reverse_reverse x
  rw [this, List.map_id]
theorem seven {n : Nat} (n1 : 1 ≤ n) (h : n ≤ 7) : n = 1 ∨ n = 2 ∨ n = 3 ∨ n = 4 ∨ n = 5 ∨ n = 6 ∨ n = 7 := by omega
theorem rowsR_wys {n : Nat} (n1 : 1 ≤ n) (h : n ≤ 7) : (rowsR n).length = wys n 0 := by
  rcases seven n1 h with e | e | e | e | e | e | e <;> subst e <;> decide +kernel
theorem still_len {n : Nat} (n1 : 1 ≤ n) (h : n ≤ 7) : (((rowsR n).map (·.1)).filter stl).length = Sg n 1 := by
  rcases seven n1 h with e | e | e | e | e | e | e <;> subst e <;> decide +kernel
end Sx

set_option Elab.async false
set_option linter.all false
namespace Sx
open PySem PySem.Spec
open PyProof.Rows L2
theorem psumN_at : ∀ (xs : List Nat) (c r : Nat), r < xs.length → (psumN c xs)[r]? = some (c + (xs.take (r + 1)).sum)
  | [], _, _, h => (Nat.not_lt_zero _ h).elim
  | x :: xs, c, 0, _ => by simp [psumN]
  | x :: xs, c, r + 1, h => by
    have := psumN_at xs (c + x) r (by simpa using h)
    simp only [psumN, List.getElem?_cons_succ, List.take_succ_cons, List.sum_cons]
    rw [this, Nat.add_assoc]
theorem sum_cnt (l : Nat) (f : Nat → Nat) (xs : List Nat) (hx : ∀ i, i < xs.length → xs[i]? = some (wys l (i + 1))) : ∀ r, r < xs.length → (xs.take (r + 1)).sum = wys (l + 1) r
  | 0, h => by
    rw [List.take_add_one, hx 0 h]
    show (List.take 0 xs ++ [wys l 1]).sum = wys l 1
    simp
  | r + 1, h => by
    rw [List.take_add_one, hx _ h, List.sum_append, sum_cnt l f xs hx r (by omega), cnt_ss]
    show wys (l + 1) r + (wys l (r + 2) + 0) = _
    omega
theorem bal_at {n : Nat} : ∀ {l : Nat}, l ≤ n → ∀ r, r < n + 1 - l → (balN n l)[r]? = some (wys l r)
  | 0, _, r, h => by
    show (List.replicate (n + 1) 1)[r]? = some 1
    rw [List.getElem?_replicate, if_pos (by omega)]
  | l + 1, h, r, hr => by
    have hl := balN_len (show l ≤ n by omega)
    have ht : (balN n l).tail.length = n - l := by rw [List.length_tail, hl]; omega
    show (psumN 0 (balN n l).tail)[r]? = _
    rw [psumN_at _ _ _ (by rw [ht]; omega), Nat.zero_add]
    refine congrArg some (sum_cnt l id _ (fun i hi => ?_) r (by rw [ht]; omega))
    rw [List.getElem?_tail]
    exact bal_at (by omega) (i + 1) (by rw [ht] at hi; omega)
theorem hal_cnt {n : Nat} (h : n ≤ 100) : halN n = wys n 0 := by
  have h1 := bal_top h
  rw [bal_at (Nat.le_refl n) 0 (by omega)] at h1
  exact (Option.some.inj h1).symm
/-- a number out of the table of ways -/
theorem LLN.bal {H : Hp} {p : Addr} {n : Nat} (h : LLN H p ((List.range (n + 1)).map (balN n))) {l r : Nat} (hl : l ≤ n) (hr : r < n + 1 - l) :
    ∃ vs a us, H p = some (.lst vs) ∧ atI vs ((l : Nat) : Int) = some (.ref a) ∧ H a = some (.lst us) ∧ atI us ((r : Nat) : Int) = some (.int (wys l r : Nat)) := by
  obtain ⟨vs, hv, hvl⟩ := h.get
  obtain ⟨a, ha, hH⟩ := h.at hv (range_at (f := balN n) (show l < n + 1 by omega))
  exact ⟨vs, a, _, hv, ha, hH, vN_atI (bal_at hl r hr)⟩
end Sx

set_option Elab.async false
set_option linter.all false
set_option maxRecDepth 100000
set_option maxHeartbeats 1000000
namespace K21
open PySem PySem.Spec
open PyProof.Rows L2 Sx
def topS (i : Nat) : Stmt := PySem.Challenge.pw_spanrounds_k21_rows_numbered.main.body.getD i (.Pass ⟨0, 0, 0, 0⟩)
abbrev s_is_int : Stmt := topS 10
theorem sc_is_int : FnScope ["value"] ["value"] (defScope s_is_int) := ⟨rfl, rfl, rfl, by decide +kernel, rfl, by decide +kernel, by decide +kernel⟩
abbrev s_is_whole : Stmt := topS 11
theorem sc_is_whole : FnScope ["value", "low", "high"] ["value", "low", "high"] (defScope s_is_whole) := ⟨rfl, rfl, rfl, by decide +kernel, rfl, by decide +kernel, by decide +kernel⟩
abbrev s_is_entry : Stmt := topS 12
theorem sc_is_entry : FnScope ["value"] ["value"] (defScope s_is_entry) := ⟨rfl, rfl, rfl, by decide +kernel, rfl, by decide +kernel, by decide +kernel⟩
abbrev s_check_size : Stmt := topS 13
theorem sc_check_size : FnScope ["size"] ["size"] (defScope s_check_size) := ⟨rfl, rfl, rfl, by decide +kernel, rfl, by decide +kernel, by decide +kernel⟩
abbrev s_check_number : Stmt := topS 14
theorem sc_check_number : FnScope ["number", "count"] ["number", "count"] (defScope s_check_number) := ⟨rfl, rfl, rfl, by decide +kernel, rfl, by decide +kernel, by decide +kernel⟩
abbrev s_is_row : Stmt := topS 16
theorem sc_is_row : FnScope ["value", "entry"] ["value"] (defScope s_is_row) := ⟨rfl, rfl, rfl, by decide +kernel, rfl, by decide +kernel, by decide +kernel⟩
abbrev s_check_row : Stmt := topS 17
theorem sc_check_row : FnScope ["row"] ["row"] (defScope s_check_row) := ⟨rfl, rfl, rfl, by decide +kernel, rfl, by decide +kernel, by decide +kernel⟩
abbrev s_all_spans : Stmt := topS 18
theorem sc_all_spans : FnScope ["row", "spans", "place", "entry", "front"] ["row"] (defScope s_all_spans) := ⟨rfl, rfl, rfl, by decide +kernel, rfl, by decide +kernel, by decide +kernel⟩
abbrev s_is_spans : Stmt := topS 20
theorem sc_is_spans : FnScope ["value", "place"] ["value"] (defScope s_is_spans) := ⟨rfl, rfl, rfl, by decide +kernel, rfl, by decide +kernel, by decide +kernel⟩
abbrev s_covers_whole_trees : Stmt := topS 21
theorem sc_covers_whole_trees : FnScope ["row", "place", "covered"] ["row", "place"] (defScope s_covers_whole_trees) := ⟨rfl, rfl, rfl, by decide +kernel, rfl, by decide +kernel, by decide +kernel⟩
abbrev s_check_spans : Stmt := topS 22
theorem sc_check_spans : FnScope ["spans"] ["spans"] (defScope s_check_spans) := ⟨rfl, rfl, rfl, by decide +kernel, rfl, by decide +kernel, by decide +kernel⟩
abbrev s_is_still : Stmt := topS 24
theorem sc_is_still : FnScope ["row"] ["row"] (defScope s_is_still) := ⟨rfl, rfl, rfl, by decide +kernel, rfl, by decide +kernel, by decide +kernel⟩
abbrev s_count_spans : Stmt := topS 26
theorem sc_count_spans : FnScope ["size"] ["size"] (defScope s_count_spans) := ⟨rfl, rfl, rfl, by decide +kernel, rfl, by decide +kernel, by decide +kernel⟩
abbrev s_nth_spans : Stmt := topS 27
theorem sc_nth_spans : FnScope ["size", "number", "counts", "spans", "roots", "left", "span"] ["size", "number"] (defScope s_nth_spans) := ⟨rfl, rfl, rfl, by decide +kernel, rfl, by decide +kernel, by decide +kernel⟩
abbrev s_spans_number : Stmt := topS 28
theorem sc_spans_number : FnScope ["spans", "counts", "number", "roots", "place", "entry", "span"] ["spans"] (defScope s_spans_number) := ⟨rfl, rfl, rfl, by decide +kernel, rfl, by decide +kernel, by decide +kernel⟩
abbrev s_spans_counts : Stmt := topS 29
theorem sc_spans_counts : FnScope ["size", "counts", "_", "count", "ways", "fewer"] ["size"] (defScope s_spans_counts) := ⟨rfl, rfl, rfl, by decide +kernel, rfl, by decide +kernel, by decide +kernel⟩
abbrev s_count_still : Stmt := topS 30
theorem sc_count_still : FnScope ["size"] ["size"] (defScope s_count_still) := ⟨rfl, rfl, rfl, by decide +kernel, rfl, by decide +kernel, by decide +kernel⟩
abbrev s_nth_still : Stmt := topS 31
theorem sc_nth_still : FnScope ["size", "number", "counts"] ["size", "number"] (defScope s_nth_still) := ⟨rfl, rfl, rfl, by decide +kernel, rfl, by decide +kernel, by decide +kernel⟩
abbrev s_still_entries : Stmt := topS 32
theorem sc_still_entries : FnScope ["counts", "size", "number", "row", "least", "left", "inner"] ["counts", "size", "number"] (defScope s_still_entries) := ⟨rfl, rfl, rfl, by decide +kernel, rfl, by decide +kernel, by decide +kernel⟩
abbrev s_still_number : Stmt := topS 33
theorem sc_still_number : FnScope ["row"] ["row"] (defScope s_still_number) := ⟨rfl, rfl, rfl, by decide +kernel, rfl, by decide +kernel, by decide +kernel⟩
abbrev s_number_in : Stmt := topS 34
theorem sc_number_in : FnScope ["counts", "row", "number", "least", "last", "left", "inner"] ["counts", "row"] (defScope s_number_in) := ⟨rfl, rfl, rfl, by decide +kernel, rfl, by decide +kernel, by decide +kernel⟩
abbrev s_still_counts : Stmt := topS 35
theorem sc_still_counts : FnScope ["size", "counts", "entries", "ways", "least"] ["size"] (defScope s_still_counts) := ⟨rfl, rfl, rfl, by decide +kernel, rfl, by decide +kernel, by decide +kernel⟩
abbrev s__law_spans : Stmt := topS 37
theorem sc__law_spans : FnScope ["row", "found", "place", "entry", "front"] ["row"] (defScope s__law_spans) := ⟨rfl, rfl, rfl, by decide +kernel, rfl, by decide +kernel, by decide +kernel⟩
abbrev s__law_all : Stmt := topS 38
theorem sc__law_all : FnScope ["size_here", "found", "turn", "longer", "row", "tops", "many", "entry"] ["size_here"] (defScope s__law_all) := ⟨rfl, rfl, rfl, by decide +kernel, rfl, by decide +kernel, by decide +kernel⟩
abbrev s__law_still : Stmt := topS 39
theorem sc__law_still : FnScope ["spans_here"] ["spans_here"] (defScope s__law_still) := ⟨rfl, rfl, rfl, by decide +kernel, rfl, by decide +kernel, by decide +kernel⟩
abbrev s__law_size_right : Stmt := topS 40
theorem sc__law_size_right : FnScope ["size_here", "every", "some", "kept", "again", "told", "row", "spot"] ["size_here"] (defScope s__law_size_right) := ⟨rfl, rfl, rfl, by decide +kernel, rfl, by decide +kernel, by decide +kernel⟩
abbrev s_law : Stmt := topS 41
theorem sc_law : FnScope ["script", "size_here"] ["script"] (defScope s_law) := ⟨rfl, rfl, rfl, by decide +kernel, rfl, by decide +kernel, by decide +kernel⟩
structure Top (mg : Str → Option Value) : Prop where
  isinstance : mg "isinstance" = none
  int : mg "int" = none
  bool : mg "bool" = none
  all : mg "all" = none
  tuple : mg "tuple" = none
  len : mg "len" = none
  enumerate : mg "enumerate" = none
  range : mg "range" = none
  divmod : mg "divmod" = none
  sum : mg "sum" = none
  sorted : mg "sorted" = none
  repr : mg "repr" = none
  list : mg "list" = none
  c_MOST_ENTRIES : ∃ u, mg "MOST_ENTRIES" = some u ∧ RelV (.int 100) u
  c_GREATEST_ENTRY : ∃ u, mg "GREATEST_ENTRY" = some u ∧ RelV (.int 1000000000000000000000000000000) u
section
variable {P : Program} {w : World} {K : PySem.W.Frag} {mg : Str → Option Value} {base : Heap}
def sp_is_int (K : PySem.W.Frag) : Sp := fun vs H Q _ => ∃ v, vs = [.int v] ∧ Q (.bl true) H
theorem ok_is_int {f : Addr} {fd : FuncData} (D : DefAt K mg "is_int" s_is_int ["value"] f fd) (T : Top mg)  :
    C8.Cal P w K mg base 1 "is_int" (sp_is_int K) [] := by
  refine D.cal sc_is_int (fun vs H Q E h => ?len) fun cdv A outer s H vs Q E hr h => ?body
  case len => obtain ⟨v, rfl, _⟩ := h; rfl
  obtain ⟨v, rfl, q⟩ := h
  refine ⟨_, (pss_one (ps_ret (pe_and (pe_callB call_isi (by rfl) T.isinstance (by decide +kernel) (pa_cons (pv 0) (pa_cons (pe_bltn (by rfl) T.int (by decide +kernel) (v := .ty "int") rfl) pa_nil))) (pe_one (pe_not (pe_callB call_isi (by rfl) T.isinstance (by decide +kernel) (pa_cons (pv 0) (pa_cons (pe_bltn (by rfl) T.bool (by decide +kernel) (v := .ty "bool") rfl) pa_nil)))))))), ?_⟩
  refine ⟨_, rfl, _, _, _, _, true, rfl, .ty "int", .base (.int v), kit_ty (by decide +kernel), true, rfl, ?_⟩
  refine iteT ⟨_, rfl, _, _, _, _, false, rfl, .ty "bool", .base (.int v), kit_ty (by decide +kernel), false, rfl, ?_⟩
  exact q
def sp_is_whole (K : PySem.W.Frag) : Sp := fun vs H Q _ => ∃ v lo hi, vs = [.int v, .int lo, .int hi] ∧ Q (.bl (decide (lo ≤ v ∧ v ≤ hi))) H
theorem ok_is_whole {f : Addr} {fd : FuncData} (D : DefAt K mg "is_whole" s_is_whole ["value", "low", "high"] f fd) (T : Top mg) (c_is_int : C8.Cal P w K mg base 1 "is_int" (sp_is_int K) []) :
    C8.Cal P w K mg base 2 "is_whole" (sp_is_whole K) [] := by
  refine D.cal sc_is_whole (fun vs H Q E h => ?len) fun cdv A outer s H vs Q E hr h => ?body
  case len => obtain ⟨v, lo, hi, rfl, _⟩ := h; rfl
  obtain ⟨v, lo, hi, rfl, q⟩ := h
  refine ⟨_, (pss_one (ps_ret (pe_and (C8.pe_c c_is_int hr (by decide) (by rfl) (pa_cons (pv 0) pa_nil)) (pe_one (pe_chain op_le op_le (pv 1) (pv 0) (pv 2)))))), ?_⟩
  refine ⟨_, rfl, _, rfl, true, rfl, ?_⟩
  refine iteT ⟨_, rfl, _, rfl, _, _, rfl, rfl, _, rfl, ite2 (fun h1 => ?_) fun h1 => ?_⟩
  · refine ⟨_, rfl, _, _, rfl, rfl, ?_⟩
    have e : decide (v ≤ hi) = decide (lo ≤ v ∧ v ≤ hi) := decide_eq_decide.mpr ⟨fun h => ⟨of_decide_eq_true h1, h⟩, fun h => h.2⟩
    show Q (.bl (decide (v ≤ hi))) H
    rw [e]; exact q
  · have e : false = decide (lo ≤ v ∧ v ≤ hi) := (decide_eq_false fun h => h1 (decide_eq_true h.1)).symm
    show Q (.bl false) H
    rw [e]; exact q
theorem ten30 : (10 : Int) ^ 30 = 1000000000000000000000000000000 := by decide
def sp_is_entry (K : PySem.W.Frag) : Sp := fun vs H Q _ => ∃ v, vs = [.int v] ∧ Q (.bl (decide (-10 ^ 30 ≤ v ∧ v ≤ 10 ^ 30))) H
theorem ok_is_entry {f : Addr} {fd : FuncData} (D : DefAt K mg "is_entry" s_is_entry ["value"] f fd) (T : Top mg) (c_is_whole : C8.Cal P w K mg base 2 "is_whole" (sp_is_whole K) []) :
    C8.Cal P w K mg base 3 "is_entry" (sp_is_entry K) [] := by
  refine D.cal sc_is_entry (fun vs H Q E h => ?len) fun cdv A outer s H vs Q E hr h => ?body
  case len => obtain ⟨v, rfl, _⟩ := h; rfl
  obtain ⟨v, rfl, q⟩ := h
  refine ⟨_, (pss_one (ps_ret (C8.pe_c c_is_whole hr (by decide) (by rfl) (pa_cons (pv 0) (pa_cons (pe_un un_neg (C8.pe_gc (by rfl) T.c_GREATEST_ENTRY)) (pa_cons (C8.pe_gc (by rfl) T.c_GREATEST_ENTRY) pa_nil)))))), ?_⟩
  refine ⟨_, rfl, _, rfl, _, _, _, rfl, ?_⟩
  rw [ten30] at q
  exact q
def sp_covers_whole_trees (K : PySem.W.Frag) : Sp := fun vs H Q _ => ∃ a xs, ∃ i : Nat, vs = [.ref a, .int i] ∧ SqT K H a (xs.map V.int) ∧ Lam xs ∧ i < xs.length ∧ Q (.bl true) H
theorem ok_covers_whole_trees {f : Addr} {fd : FuncData} (D : DefAt K mg "covers_whole_trees" s_covers_whole_trees ["row", "place"] f fd) (T : Top mg)  :
    C8.Cal P w K mg base 1 "covers_whole_trees" (sp_covers_whole_trees K) [] := by
  refine D.cal sc_covers_whole_trees (fun vs H Q E h => ?len) fun cdv A outer s H vs Q E hr h => ?body
  case len => obtain ⟨a, xs, i, rfl, _⟩ := h; rfl
  obtain ⟨a, xs, i, rfl, hS, L, hi, q⟩ := h
  refine ⟨_, (pss_cons (ps_set (i := 2) sc_covers_whole_trees.nd rfl (.inl rfl) pe_int)
      (pss_cons (ps_while PassesOwn.never (PW.pt (pw_and (pt_cmpR op_lt (pv 2) (pe_ix ix_tup (pv 0) (pv 1) (fun _ _ => rfl)) (nomark _)) (pw_and1 (pt_cmpR op_le (pv 2) (pv 1) (nomark _)))))
        (pss_one (ps_set (i := 2) sc_covers_whole_trees.nd rfl (.inl rfl) (pe_op op_add (pv 2) (pe_ix ix_tup (pv 0) (pe_op op_sub (pv 1) (pv 2)) (fun _ _ => rfl))))))
      (pss_one (ps_ret (pe_cmpR op_eq (pv 2) (pe_ix ix_tup (pv 0) (pv 1) (fun _ _ => rfl)) (nomark _)))))), ?_⟩
  have a1 := L.lo i hi
  have a2 := L.hi i hi
  refine ⟨fun m σ H' => H' = H ∧ ∃ c : Int, σ = [some (.ref a), some (.int i), some (.int c)] ∧ 1 ≤ c ∧ c ≤ g xs i ∧ m = (g xs i - c).toNat, ⟨_, rfl, 1, rfl, by omega, by omega, rfl⟩, ?_⟩
  rintro m σ H' ⟨rfl, c, rfl, c1, c2, rfl⟩
  refine ⟨_, rfl, _, rfl, _, rfl, a, _, _, _, rfl, rfl, hS, atN hi, _, _, rfl, rfl, _, rfl, ite2 (fun t1 => ?_) fun t1 => ?_⟩
  · have t1 := of_decide_eq_true t1
    refine ⟨_, rfl, _, rfl, _, _, rfl, rfl, _, rfl, ?_⟩
    rw [decide_eq_true (show c ≤ (i : Int) by omega)]
    refine ⟨fun σ' H'' => ∃ m', m' < (g xs i - c).toNat ∧ H'' = H' ∧ ∃ c : Int, σ' = [some (.ref a), some (.int i), some (.int c)] ∧ 1 ≤ c ∧ c ≤ g xs i ∧ m' = (g xs i - c).toNat, fun _ _ h => h, ?_⟩
    have hj : ((i : Int) - c).toNat < xs.length := by omega
    have hn := L.nest i ((i : Int) - c).toNat hi (by unfold fc; omega) (by omega)
    have hl := L.lo _ hj
    unfold fc at hn
    refine ⟨_, rfl, _, rfl, _, rfl, _, rfl, _, _, rfl, rfl, a, _, _, _, rfl, rfl, hS, atN' (by omega) (by omega), _, _, rfl, rfl, ?_⟩
    exact ⟨_, by omega, rfl, _, rfl, by omega, by omega, rfl⟩
  · have e : c = g xs i := by
      have t1 : ¬ c < g xs i := fun h => t1 (decide_eq_true h)
      omega
    refine ⟨_, rfl, _, rfl, _, rfl, a, _, _, _, rfl, rfl, hS, atN hi, rfl, ?_⟩
    rw [e]
    show Q (.bl (decide (V.int (g xs i) = V.int (g xs i)))) H'
    rw [decide_eq_true rfl]
    exact q
def sp_is_row (K : PySem.W.Frag) : Sp := fun vs H Q _ => ∃ a, ∃ xs : List Int, vs = [.ref a] ∧ SqT K H a (xs.map V.int) ∧ 1 ≤ xs.length ∧ xs.length ≤ 100 ∧ (∀ x ∈ xs, -10 ^ 30 ≤ x ∧ x ≤ 10 ^ 30) ∧ ∀ H', Ex H H' → Q (.bl true) H'
theorem ok_is_row {f : Addr} {fd : FuncData} (D : DefAt K mg "is_row" s_is_row ["value"] f fd) (T : Top mg) (c_is_entry : C8.Cal P w K mg base 3 "is_entry" (sp_is_entry K) []) :
    C8.Cal P w K mg base 4 "is_row" (sp_is_row K) [] := by
  refine D.cal sc_is_row (fun vs H Q E h => ?len) fun cdv A outer s H vs Q E hr h => ?body
  case len => obtain ⟨a, xs, rfl, _⟩ := h; rfl
  obtain ⟨a, xs, rfl, hS, h0, h1, hB, q⟩ := h
  refine ⟨_, (pss_cons (ps_if (PW.pt (pw_or (pt_not (pt_val (pe_callB call_isi (by rfl) T.isinstance (by decide +kernel) (pa_cons (pv 0) (pa_cons (pe_bltn (by rfl) T.tuple (by decide +kernel) (v := .ty "tuple") rfl) pa_nil))))) (pw_or1 (pt_not (pt_chain op_le op_le pe_int (pe_callB call_len_seq (by rfl) T.len (by decide +kernel) (pa_cons (pv 0) pa_nil)) (C8.pe_gc (by rfl) T.c_MOST_ENTRIES))))))
        (pss_one (ps_ret pe_bl))
        pss_nil)
      (pss_one (ps_ret (pe_callB (cr_all rfl) (by rfl) T.all (by decide +kernel) (pa_cons (pe_lc (own := [("entry", 1)]) (g := gName 1) (by rfl) sc_is_row.nd (pi_tup (pv 0)) (blkOk_by (own := [("entry", 1)]) (N := ["value", "entry"]) (sc := defScope s_is_row) (by decide +kernel)) (fun _ _ _ _ _ => (pg_name (i := 1) sc_is_row.nd rfl (.inl rfl))) (fun _ _ _ _ _ => pts_nil) (fun _ _ _ _ _ => (C8.pe_c c_is_entry hr (by decide) (by rfl) (pa_cons (pv 1) pa_nil)))) pa_nil))))), ?_⟩
  refine ⟨_, rfl, _, _, _, _, true, rfl, .ty "tuple", tyT hS, kit_ty (by decide +kernel), true, rfl, ?_⟩
  refine ⟨_, rfl, a, _, rfl, .inr hS, _, _, rfl, rfl, true, ?_, ?_⟩
  · rw [List.length_map]; exact congrArg V.bl (decide_eq_true (by omega))
  refine iteT ⟨_, _, rfl, rfl, true, ?_, ?_⟩
  · rw [List.length_map]; exact congrArg V.bl (decide_eq_true (by omega))
  refine ⟨_, rfl, a, rfl, ⟨_, hS⟩, fun D hD => ?_⟩
  refine lc_tup (K := K) (a := a) (xs := xs.map V.int) (fun i H' => Ex H H' ∧ H' D = some (.lst ((List.replicate i true).map V.bl))) ⟨Evl.Ex.new hD, upd_same⟩ (fun i H' _ h => Evl.ex_t h.1 hS) ?_ ?_
  · rintro i x H' hx ⟨hE, hH⟩
    have hi : i < xs.length := by
      have := (List.getElem?_eq_some_iff.mp hx).1
      rwa [List.length_map] at this
    obtain ⟨z, hz, rfl⟩ : ∃ z, z ∈ xs ∧ x = .int z := by
      rw [List.getElem?_map] at hx
      cases e : xs[i]? with
      | none => rw [e] at hx; cases hx
      | some z => rw [e] at hx; cases hx; exact ⟨z, List.mem_of_getElem? e, rfl⟩
    refine ⟨rfl, ?_⟩
    dsimp only [tYes]
    rw [if_pos rfl]
    have hz' : H' D = some (.lst ((List.replicate i true).map V.bl)) := hH
    refine ⟨_, rfl, _, rfl, ?_⟩
    rw [decide_eq_true (show -10 ^ 30 ≤ z ∧ z ≤ 10 ^ 30 from hB z hz)]
    refine ⟨_, hz', ?_, Evl.Ex.mut hE hD, ?_⟩
    · rw [List.length_map, List.length_replicate]; exact small1000 (by omega)
    · rw [upd_same, List.replicate_succ', List.map_append]; rfl
  · rintro H' ⟨hE, hH⟩
    refine ⟨D, _, rfl, SqL.of hH, ?_⟩
    have e : (List.replicate (xs.map V.int).length true).all id = true := by
      rw [List.all_eq_true]
      intro b hb
      rw [(List.mem_replicate.mp hb).2]; rfl
    rw [e]
    exact q H' hE
def sp_is_spans (K : PySem.W.Frag) : Sp := fun vs H Q _ => ∃ a, ∃ xs : List Int, vs = [.ref a] ∧ SqT K H a (xs.map V.int) ∧ Lam xs ∧ 1 ≤ xs.length ∧ xs.length ≤ 100 ∧ ∀ H', Ex H H' → Q (.bl true) H'
theorem ok_is_spans {f : Addr} {fd : FuncData} (D : DefAt K mg "is_spans" s_is_spans ["value"] f fd) (T : Top mg) (c_is_row : C8.Cal P w K mg base 4 "is_row" (sp_is_row K) []) (c_covers_whole_trees : C8.Cal P w K mg base 1 "covers_whole_trees" (sp_covers_whole_trees K) []) :
    C8.Cal P w K mg base 5 "is_spans" (sp_is_spans K) [] := by
  refine D.cal sc_is_spans (fun vs H Q E h => ?len) fun cdv A outer s H vs Q E hr h => ?body
  case len => obtain ⟨a, xs, rfl, _⟩ := h; rfl
  obtain ⟨a, xs, rfl, hS, L, h0, h1, q⟩ := h
  refine ⟨_, (pss_cons (ps_if (pt_not (pt_val (C8.pe_c c_is_row hr (by decide) (by rfl) (pa_cons (pv 0) pa_nil))))
        (pss_one (ps_ret pe_bl))
        pss_nil)
      (pss_cons (ps_for PassesOwn.never rfl (pi_range1 (by rfl) T.range (pa_cons (pe_callB call_len_seq (by rfl) T.len (by decide +kernel) (pa_cons (pv 0) pa_nil)) pa_nil)) (pg_name (i := 1) sc_is_spans.nd rfl (.inl rfl))
        (pss_one (ps_if (pt_not (pt_val (C8.pe_c c_covers_whole_trees hr (by decide) (by rfl) (pa_cons (pv 0) (pa_cons (pv 1) pa_nil)))))
            (pss_one (ps_ret pe_bl))
            pss_nil)))
      (pss_one (ps_ret pe_bl)))), ?_⟩
  refine ⟨_, rfl, a, xs, rfl, hS, h0, h1, fun x hx => ?_, fun H' hE => ?_⟩
  · obtain ⟨i, hi, rfl⟩ := List.mem_iff_getElem.mp hx
    have e : g xs i = xs[i] := by unfold g; rw [List.getD_eq_getElem?_getD, List.getElem?_eq_getElem hi]; rfl
    rw [← e]
    have := L.lo i hi
    have := L.hi i hi
    omega
  refine ⟨_, rfl, ?_⟩
  show if (!true) = true then _ else _
  rw [if_neg (by decide)]
  refine ⟨_, rfl, a, _, rfl, .inr (Evl.ex_t hE hS), _, rfl, ?_⟩
  rw [List.length_map]
  refine ⟨by omega, by omega, ?_⟩
  refine for_range (lo := 0) (n := (xs.length : Int).toNat) (fun i σ H'' => H'' = H' ∧ ∃ y, σ = [some (.ref a), y]) ⟨rfl, none, rfl⟩ ?_ ?_
  · rintro i σ H'' hi ⟨rfl, y, rfl⟩
    refine ⟨_, rfl, _, rfl, a, xs, i, ?_, Evl.ex_t hE hS, L, by omega, _, rfl, ?_⟩
    · rw [Int.zero_add]; rfl
    show if (!true) = true then _ else _
    rw [if_neg (by decide)]
    exact ⟨rfl, _, rfl⟩
  · rintro σ H'' ⟨rfl, y, rfl⟩
    exact q _ hE
def sp_check_spans (K : PySem.W.Frag) : Sp := fun vs H Q _ => ∃ a, ∃ xs : List Int, vs = [.ref a] ∧ SqT K H a (xs.map V.int) ∧ Lam xs ∧ 1 ≤ xs.length ∧ xs.length ≤ 100 ∧ ∀ H', Ex H H' → Q .non H'
theorem ok_check_spans {f : Addr} {fd : FuncData} (D : DefAt K mg "check_spans" s_check_spans ["spans"] f fd) (T : Top mg) (c_is_spans : C8.Cal P w K mg base 5 "is_spans" (sp_is_spans K) []) :
    C8.Cal P w K mg base 6 "check_spans" (sp_check_spans K) [] := by
  refine D.cal sc_check_spans (fun vs H Q E h => ?len) fun cdv A outer s H vs Q E hr h => ?body
  case len => obtain ⟨a, xs, rfl, _⟩ := h; rfl
  obtain ⟨a, xs, rfl, hS, L, h0, h1, q⟩ := h
  refine ⟨_, (pss_one (ps_if (pt_not (pt_val (C8.pe_c c_is_spans hr (by decide) (by rfl) (pa_cons (pv 0) pa_nil))))
        (pss_one ps_never)
        pss_nil)), ?_⟩
  refine ⟨_, rfl, a, xs, rfl, hS, L, h0, h1, fun H' hE => ⟨_, rfl, ?_⟩⟩
  show if (!true) = true then _ else _
  rw [if_neg (by decide)]
  exact q H' hE
def sp_check_row (K : PySem.W.Frag) : Sp := fun vs H Q _ => ∃ a, ∃ xs : List Int, vs = [.ref a] ∧ SqT K H a (xs.map V.int) ∧ 1 ≤ xs.length ∧ xs.length ≤ 100 ∧ (∀ x ∈ xs, -10 ^ 30 ≤ x ∧ x ≤ 10 ^ 30) ∧ ∀ H', Ex H H' → Q .non H'
theorem ok_check_row {f : Addr} {fd : FuncData} (D : DefAt K mg "check_row" s_check_row ["row"] f fd) (T : Top mg) (c_is_row : C8.Cal P w K mg base 4 "is_row" (sp_is_row K) []) :
    C8.Cal P w K mg base 5 "check_row" (sp_check_row K) [] := by
  refine D.cal sc_check_row (fun vs H Q E h => ?len) fun cdv A outer s H vs Q E hr h => ?body
  case len => obtain ⟨a, xs, rfl, _⟩ := h; rfl
  obtain ⟨a, xs, rfl, hS, h0, h1, hB, q⟩ := h
  refine ⟨_, (pss_one (ps_if (pt_not (pt_val (C8.pe_c c_is_row hr (by decide) (by rfl) (pa_cons (pv 0) pa_nil))))
        (pss_one ps_never)
        pss_nil)), ?_⟩
  refine ⟨_, rfl, a, xs, rfl, hS, h0, h1, hB, fun H' hE => ⟨_, rfl, ?_⟩⟩
  show if (!true) = true then _ else _
  rw [if_neg (by decide)]
  exact q H' hE
def sp_all_spans (K : PySem.W.Frag) : Sp := fun vs H Q _ => ∃ a, ∃ xs : List Int, vs = [.ref a] ∧ SqT K H a (xs.map V.int) ∧ xs.length ≤ 200 ∧
  ∀ p H', H p = none → Ex H H' → H' p = some (.tup ((spans xs).map V.int)) → Q (.ref p) H'
theorem ok_all_spans {f : Addr} {fd : FuncData} (D : DefAt K mg "all_spans" s_all_spans ["row"] f fd) (T : Top mg)  :
    C8.Cal P w K mg base 1 "all_spans" (sp_all_spans K) [] := by
  refine D.cal sc_all_spans (fun vs H Q E h => ?len) fun cdv A outer s H vs Q E hr h => ?body
  case len => obtain ⟨a, xs, rfl, _⟩ := h; rfl
  obtain ⟨a, xs, rfl, hS, hz, q⟩ := h
  refine ⟨_, (pss_cons (ps_set (i := 1) sc_all_spans.nd rfl (.inl rfl) (pe_lst pa_nil))
      (pss_cons (ps_for PassesOwn.never rfl (pi_enumT (by rfl) T.enumerate (pa_cons (pv 0) pa_nil)) (pg_tup rfl (pgs_cons (pg_name (i := 2) sc_all_spans.nd rfl (.inl rfl)) (pgs_cons (pg_name (i := 3) sc_all_spans.nd rfl (.inl rfl)) pgs_nil)))
        (pss_cons (ps_set (i := 4) sc_all_spans.nd rfl (.inl rfl) (pe_op op_sub (pv 2) pe_int))
          (pss_cons (ps_while PassesOwn.never (PW.pt (pw_and (pt_cmpR op_ge (pv 4) pe_int (nomark _)) (pw_and1 (pt_cmpR op_lt (pe_ix ix_tup (pv 0) (pv 4) (fun _ _ => rfl)) (pv 3) (nomark _)))))
            (pss_one (ps_set (i := 4) sc_all_spans.nd rfl (.inl rfl) (pe_op op_sub (pv 4) (pe_ix ix_list (pv 1) (pv 4) (fun _ _ => rfl))))))
          (pss_one (ps_expr (pe_bm PySem.F.plainAttrs_list PySem.F.slot_list_append PySem.F.type_list_append mt_append (pv 1) (pa_cons (pe_op op_sub (pv 2) (pv 4)) pa_nil)))))))
      (pss_one (ps_ret (pe_callTy call_tuple_of (by rfl) T.tuple (by decide +kernel) (pa_cons (pv 1) pa_nil)))))), ?_⟩
  refine ⟨Nat.zero_le _, fun fl hfl => ?_⟩
  have X0 := Evl.Ex.new (o := .lst []) hfl
  refine ⟨_, rfl, a, _, rfl, Evl.ex_t X0 hS, ?_⟩
  refine for_enumT (K := K) (a := a) (xs := xs.map V.int) (fun i σ H' => Ex H H' ∧ H' fl = some (.lst (((spans xs).take i).map V.int)) ∧ ∃ y2 y3 y4 : Option V, σ = [some (.ref a), some (.ref fl), y2, y3, y4])
    ⟨X0, upd_same, _, _, _, rfl⟩ (fun i σ H' h => Evl.ex_t h.1 hS) ?_ ?_
  · rintro i x T' σ H1 hx ⟨X1, hfl1, y2, y3, y4, rfl⟩ hT
    have hi : i < xs.length := by
      have := (List.getElem?_eq_some_iff.mp hx).1
      rwa [List.length_map] at this
    have ex : x = .int (g xs i) := by
      rw [List.getElem?_map, g_get hi] at hx
      exact (Option.some.inj hx).symm
    subst ex
    have X2 := Evl.Ex.new (o := .tup [.int (i : Nat), .int (g xs i)]) hT
    have hS2 := Evl.ex_t (X1.trans X2) hS
    have hfl2 := X2 _ _ hfl1
    refine ⟨T', _, rfl, SqT.of upd_same, rfl, _, _, rfl, _, _, rfl, rfl, ?_⟩
    refine ⟨_, rfl, _, _, rfl, rfl, ?_⟩
    generalize upd H1 T' (.tup [.int (i : Nat), .int (g xs i)]) = H2 at X2 hS2 hfl2 ⊢
    refine ⟨fun m σ H' => H' = H2 ∧ ∃ f : Nat, σ = [some (.ref a), some (.ref fl), some (.int i), some (.int (g xs i)), some (.int ((f : Int) - 1))] ∧ f ≤ i ∧ bk xs (g xs i) f = bk xs (g xs i) i ∧ m = f, ⟨i, rfl, i, rfl, Nat.le_refl _, rfl, rfl⟩, ?_⟩
    rintro m σ H' ⟨rfl, f, rfl, hf, hb, rfl⟩
    refine ⟨_, rfl, _, _, rfl, rfl, _, rfl, ?_⟩
    refine ite2 (fun t => ?inA) fun t => ?inB
    case' inA =>
      have t : (0 : Int) ≤ (m : Int) - 1 := of_decide_eq_true t
      have em : (m : Int) - 1 = ((m - 1 : Nat) : Int) := by omega
      have hat : atI (xs.map V.int) ((m : Int) - 1) = some (.int (g xs (m - 1))) := by rw [em]; exact atN (by omega)
      refine ⟨_, rfl, _, rfl, a, _, _, _, rfl, rfl, hS2, hat, _, rfl, _, _, rfl, rfl, _, rfl, ?_⟩
      refine ite2 (fun t2 => ?inC) fun t2 => ?inD
      case' inC =>
        have t2 : g xs (m - 1) < g xs i := of_decide_eq_true t2
        refine ⟨_, fun _ _ h => h, ?_⟩
        have hat2 : atI (((spans xs).take i).map V.int) ((m : Int) - 1) = some (.int (spn xs (m - 1))) := by
          rw [em, atN (by rw [List.length_take, spans_len]; omega), g_take (by omega), spans_g (by omega)]
        refine ⟨_, rfl, _, rfl, _, rfl, fl, _, _, _, rfl, rfl, SqL.of hfl2, hat2, _, _, rfl, rfl, bk xs (g xs (m - 1)) (m - 1), ?_, rfl, bk xs (g xs (m - 1)) (m - 1), ?_, ?_, ?_, rfl⟩
        · have := bk_le xs (g xs (m - 1)) (m - 1); omega
        · have e5 : (m : Int) - 1 - spn xs (m - 1) = (bk xs (g xs (m - 1)) (m - 1) : Int) - 1 := by unfold spn; omega
          exact congrArg (fun z => [some (V.ref a), some (V.ref fl), some (V.int i), some (V.int (g xs i)), some (V.int z)]) e5
        · have := bk_le xs (g xs (m - 1)) (m - 1); omega
        · rw [← bk_skip t2, show m - 1 + 1 = m by omega]; exact hb
      case' inD =>
        have hm : bk xs (g xs i) m = m := by
          have t2 : ¬ g xs (m - 1) < g xs i := fun h => t2 (decide_eq_true h)
          obtain ⟨k, rfl⟩ : ∃ k, m = k + 1 := ⟨m - 1, by omega⟩
          show (if g xs k < g xs i then bk xs (g xs i) k else k + 1) = k + 1
          rw [if_neg (show ¬ g xs k < g xs i from t2)]
    case' inB =>
      have t : ¬ (0 : Int) ≤ (m : Int) - 1 := fun h => t (decide_eq_true h)
      have hm : bk xs (g xs i) m = m := by
        have e0 : m = 0 := by omega
        rw [e0]; rfl
      refine iteF ?_
    all_goals
      refine ⟨_, rfl, .inl ⟨rfl, _, SqL.of hfl2⟩, _, rfl, _, rfl, _, _, rfl, rfl, fl, _, _, rfl, rfl, hfl2, ?_, ?_⟩
      · rw [List.length_map, List.length_take]; exact small1000 (by omega)
      · refine ⟨Evl.Ex.mut (X1.trans X2) hfl, ?_, _, _, _, rfl⟩
        rw [upd_same, List.take_add_one]
        have hg : (spans xs)[i]? = some ((i : Int) - ((m : Int) - 1)) := by
          rw [g_get (by rw [spans_len]; exact hi), spans_g hi]
          unfold spn
          rw [← hb, hm]
          exact congrArg some (by omega)
        rw [hg, List.map_append]
        rfl
  · rintro σ H1 ⟨X1, hfl1, y2, y3, y4, rfl⟩
    rw [List.length_map, List.take_of_length_le (by rw [spans_len]; exact Nat.le_refl _)] at hfl1
    refine ⟨_, rfl, fl, _, rfl, .inl ⟨SqL.of hfl1, fun r hr' => ?_⟩⟩
    exact q r _ (Evl.fresh_back X1 hr') (X1.trans (Evl.Ex.new hr')) upd_same
end
end K21

set_option Elab.async false
set_option linter.all false
set_option maxRecDepth 100000
set_option maxHeartbeats 1000000
namespace K21
open PySem PySem.Spec
open PyProof.Rows L2 Sx
section
variable {P : Program} {w : World} {K : PySem.W.Frag} {mg : Str → Option Value} {base : Heap}
def sp_check_size (K : PySem.W.Frag) : Sp := fun vs H Q _ => ∃ v, vs = [.int v] ∧ 1 ≤ v ∧ v ≤ 100 ∧ Q .non H
theorem ok_check_size {f : Addr} {fd : FuncData} (D : DefAt K mg "check_size" s_check_size ["size"] f fd) (T : Top mg) (c_is_whole : C8.Cal P w K mg base 2 "is_whole" (sp_is_whole K) []) :
    C8.Cal P w K mg base 3 "check_size" (sp_check_size K) [] := by
  refine D.cal sc_check_size (fun vs H Q E h => ?len) fun cdv A outer s H vs Q E hr h => ?body
  case len => obtain ⟨v, rfl, _⟩ := h; rfl
  obtain ⟨v, rfl, h0, h1, q⟩ := h
  refine ⟨_, (pss_one (ps_if (pt_not (pt_val (C8.pe_c c_is_whole hr (by decide) (by rfl) (pa_cons (pv 0) (pa_cons pe_int (pa_cons (C8.pe_gc (by rfl) T.c_MOST_ENTRIES) pa_nil))))))
        (pss_one ps_never)
        pss_nil)), ?_⟩
  refine ⟨_, rfl, _, _, _, rfl, _, rfl, ?_⟩
  rw [decide_eq_true (show (1 : Int) ≤ v ∧ v ≤ 100 from ⟨h0, h1⟩)]
  exact q
def sp_is_still (K : PySem.W.Frag) : Sp := fun vs H Q _ => ∃ a, ∃ xs : List Int, vs = [.ref a] ∧ SqT K H a (xs.map V.int) ∧ Rw xs ∧ ∀ H', Ex H H' → Q (.bl (decide (spans xs = xs))) H'
theorem ok_is_still {f : Addr} {fd : FuncData} (D : DefAt K mg "is_still" s_is_still ["row"] f fd) (T : Top mg) (c_check_row : C8.Cal P w K mg base 5 "check_row" (sp_check_row K) []) (c_all_spans : C8.Cal P w K mg base 1 "all_spans" (sp_all_spans K) []) :
    C8.Cal P w K mg base 6 "is_still" (sp_is_still K) [] := by
  refine D.cal sc_is_still (fun vs H Q E h => ?len) fun cdv A outer s H vs Q E hr h => ?body
  case len => obtain ⟨a, xs, rfl, _⟩ := h; rfl
  obtain ⟨a, xs, rfl, hS, R, q⟩ := h
  refine ⟨_, (pss_cons (ps_expr (C8.pe_c c_check_row hr (by decide) (by rfl) (pa_cons (pv 0) pa_nil)))
      (pss_one (ps_ret (pe_cmpR (op_eqD hr.units) (C8.pe_c c_all_spans hr (by decide) (by rfl) (pa_cons (pv 0) pa_nil)) (pv 0) (nomark _))))), ?_⟩
  refine ⟨_, rfl, a, xs, rfl, hS, R.lo, R.hi, R.ok, fun H1 X1 => ?_⟩
  refine ⟨_, rfl, a, xs, rfl, Evl.ex_t X1 hS, by have := R.hi; omega, fun p H2 hp X2 hp2 => ?_⟩
  refine ⟨_, rfl, .tuple ((spans xs).map PyData.int), .tuple (xs.map PyData.int), .tup (SqT.of hp2) (dp_ints _), .tup (Evl.ex_t (X1.trans X2) hS) (dp_ints _), shaped_tup _, shaped_tup _, ?_⟩
  rw [eqv_tup]
  exact q _ (X1.trans X2)
def sp_spans_counts (K : PySem.W.Frag) : Sp := fun vs H Q _ => ∃ n : Nat, vs = [.int (n : Int)] ∧ n ≤ 100 ∧ ∀ p H', H p = none → Ex H H' → LLN H' p ((List.range (n + 1)).map (balN n)) → Q (.ref p) H'
theorem ok_spans_counts {f : Addr} {fd : FuncData} (D : DefAt K mg "spans_counts" s_spans_counts ["size"] f fd) (T : Top mg)  :
    C8.Cal P w K mg base 1 "spans_counts" (sp_spans_counts K) [] := by
  refine D.cal sc_spans_counts (fun vs H Q E h => ?len) fun cdv A outer s H vs Q E hr h => ?body
  case len => obtain ⟨n, rfl, _⟩ := h; rfl
  obtain ⟨n, rfl, n2, q⟩ := h
  refine ⟨_, (pss_cons (ps_set (i := 1) sc_spans_counts.nd rfl (.inl rfl) (pe_lst (pa_cons (pe_op op_rep (pe_lst (pa_cons pe_int pa_nil)) (pe_op op_add (pv 0) pe_int)) pa_nil)))
      (pss_cons (ps_for PassesOwn.never rfl (pi_range1 (by rfl) T.range (pa_cons (pv 0) pa_nil)) (pg_name (i := 2) sc_spans_counts.nd rfl (.inl rfl))
        (pss_cons (ps_set (i := 3) sc_spans_counts.nd rfl (.inl rfl) pe_int)
          (pss_cons (ps_set (i := 4) sc_spans_counts.nd rfl (.inl rfl) (pe_lst pa_nil))
          (pss_cons (ps_for PassesOwn.never rfl (pi_list (pe_slice sl_list (pe_ix ix_list (pv 1) (pe_un un_neg pe_int) (fun _ _ => rfl)) (po_some pe_int) po_none)) (pg_name (i := 5) sc_spans_counts.nd rfl (.inl rfl))
            (pss_cons (ps_set (i := 3) sc_spans_counts.nd rfl (.inl rfl) (pe_op op_add (pv 3) (pv 5)))
              (pss_one (ps_expr (pe_bm PySem.F.plainAttrs_list PySem.F.slot_list_append PySem.F.type_list_append mt_append (pv 4) (pa_cons (pv 3) pa_nil))))))
          (pss_one (ps_expr (pe_bm PySem.F.plainAttrs_list PySem.F.slot_list_append PySem.F.type_list_append mt_append (pv 1) (pa_cons (pv 4) pa_nil))))))))
      (pss_one (ps_ret (pv 1))))), ?_⟩
  refine ⟨by show 1 ≤ sizeLine; decide, fun p1 hp1 => ?_⟩
  refine ⟨_, rfl, _, _, rfl, rfl, p1, _, _, rfl, rfl, upd_same, by show -(2 ^ 63) ≤ (n : Int) + 1; omega, by show (n : Int) + 1 < 2 ^ 63; omega, ?_, fun p2 hp2 => ?_⟩
  · show 1 * ((n : Int) + 1).toNat ≤ sizeLine
    exact Nat.le_trans (by omega) (show 101 ≤ sizeLine by decide)
  have e0 : (List.replicate ((n : Int) + 1).toNat [V.int 1]).flatten = vN (balN n 0) := by
    rw [rep_flat, show ((n : Int) + 1).toNat = n + 1 by omega]
    unfold vN balN
    rw [List.map_replicate, List.map_replicate]; rfl
  refine ⟨by show 1 ≤ sizeLine; decide, fun p3 hp3 => ?_⟩
  have hp30 : H p3 = none := Evl.fresh_back ((Evl.Ex.new hp1).trans (Evl.Ex.new hp2)) hp3
  generalize hH3 : upd (upd (upd H p1 _) p2 _) p3 _ = H3
  have X3 : Ex H H3 := by rw [← hH3]; exact ((Evl.Ex.new hp1).trans (Evl.Ex.new hp2)).trans (Evl.Ex.new hp3)
  have L3 : LLN H3 p3 ((List.range (0 + 1)).map (balN n)) := by
    rw [← hH3]
    refine ⟨_, upd_same, rfl, fun i xs hi => ?_⟩
    match i, hi with
    | 0, hi =>
      have : xs = balN n 0 := (Option.some.inj hi).symm
      subst this
      refine ⟨p2, rfl, ?_⟩
      rw [upd_ne (ne_of_none (upd_same) hp3), upd_same]
      exact congrArg (fun z => some (HO.lst z)) e0
    | i + 1, hi => exact nomatch hi
  refine ⟨_, rfl, (n : Int), rfl, by omega, by omega, ?_⟩
  refine for_range (lo := 0) (n := ((n : Int)).toNat) (fun i σ H' => Ex H H' ∧ LLN H' p3 ((List.range (i + 1)).map (balN n)) ∧ ∃ y2 y3 y4 y5 : Option V, σ = [some (.int (n : Int)), some (.ref p3), y2, y3, y4, y5]) ⟨X3, L3, _, _, _, _, rfl⟩ ?_ ?_
  · rintro i σ H4 hi ⟨X4, L4, y2, y3, y4, y5, rfl⟩
    have hi : i < n := by omega
    refine ⟨Nat.zero_le _, fun wa hwa => ?_⟩
    have X5 : Ex H4 (upd H4 wa (.lst [])) := Evl.Ex.new hwa
    obtain ⟨vs, hv, hvl⟩ := L4.get
    rw [List.length_map, List.length_range] at hvl
    have hv5 := X5 _ _ hv
    obtain ⟨c, hc, hH⟩ := (L4.ex X5).last hv5 (n := i) (by rw [List.length_map, List.length_range]) (range_at (f := balN n) (show i < i + 1 by omega))
    have np : p3 ≠ wa := ne_of_none hv hwa
    refine ⟨_, rfl, _, rfl, p3, _, _, _, rfl, rfl, SqL.of hv5, hc, _, rfl, c, _, rfl, SqL.of hH, fun sl hsl => ?_⟩
    have ns : wa ≠ sl := ne_of_none upd_same hsl
    generalize htl : (balN n i).drop 1 = tl
    have ecut : cutV (vN (balN n i)) (some 1) none = vN tl := by
      rw [← htl]
      unfold vN
      rw [List.map_drop]
      exact cut_drop _ 1
    refine ⟨sl, rfl, ⟨_, SqL.of upd_same⟩, ?_⟩
    rw [ecut]
    refine for_list (K := K) (a := sl) (xs := vN tl) (fun j σ H' => ExB wa H4 H' ∧ H' sl = some (.lst (vN tl)) ∧ H' wa = some (.lst (vN ((psumN 0 tl).take j))) ∧ ∃ y2 y5 : Option V, σ = [some (.int (n : Int)), some (.ref p3), y2, some (.int (((tl.take j).sum : Nat) : Int)), some (.ref wa), y5])
      ⟨(ExB.of X5).trans (ExB.of (Evl.Ex.new hsl)), upd_same, ?_, _, _, rfl⟩ (fun j σ H' _ h => SqL.of h.2.1) ?_ ?_
    · rw [upd_ne ns, upd_same]; rfl
    · rintro j x σ H6 hx ⟨E6, hs6, hw6, y2, y5, rfl⟩
      obtain ⟨z, hz, rfl⟩ : ∃ z : Nat, tl[j]? = some z ∧ x = .int (z : Int) := by
        unfold vN at hx
        rw [List.getElem?_map] at hx
        cases e : tl[j]? with
        | none => rw [e] at hx; cases hx
        | some z => rw [e] at hx; cases hx; exact ⟨z, rfl, rfl⟩
      have hj : j < tl.length := (List.getElem?_eq_some_iff.mp hz).1
      have htlen : tl.length ≤ 101 := by rw [← htl, List.length_drop, balN_len (show i ≤ n by omega)]; omega
      refine ⟨_, rfl, _, rfl, _, _, rfl, rfl, ?_⟩
      refine ⟨_, rfl, .inl ⟨rfl, _, SqL.of hw6⟩, _, rfl, wa, _, _, rfl, rfl, hw6, ?_, ?_⟩
      · rw [vN_len, List.length_take]; exact small1000 (by omega)
      refine ⟨E6.trans ExB.upd, by rw [upd_ne ns.symm]; exact hs6, ?_, y2, some (.int (z : Int)), ?_⟩
      · rw [upd_same, psumN_take 0 tl j z hz, vN_app, Nat.zero_add]
        rfl
      · rw [List.take_add_one, hz, List.sum_append]
        show _ = [some (V.int (n : Int)), some (V.ref p3), y2, some (V.int ((((tl.take j).sum + (z + 0) : Nat) : Int))), some (V.ref wa), some (V.int (z : Int))]
        rw [Nat.add_zero]
        rfl
    · rintro σ H6 ⟨E6, hs6, hw6, y2, y5, rfl⟩
      rw [vN_len] at hw6
      have hfull : (psumN 0 tl).take tl.length = balN n (i + 1) := by
        rw [List.take_of_length_le (by rw [psumN_len]; exact Nat.le_refl _), ← htl]
        show psumN 0 ((balN n i).drop 1) = psumN 0 (balN n i).tail
        rw [List.drop_one]
      rw [hfull] at hw6
      have hv6 := E6 _ _ np hv
      have L6 := L4.exB E6 hwa
      have X6 : Ex H H6 := fun b o hb => E6 b o (ne_of_none hb (Evl.fresh_back X4 hwa)) (X4 b o hb)
      refine ⟨_, rfl, .inl ⟨rfl, _, SqL.of hv6⟩, _, rfl, p3, _, _, rfl, rfl, hv6, ?_, ?_⟩
      · exact small1000 (by omega)
      refine ⟨Evl.Ex.mut X6 hp30, ?_, _, _, _, _, rfl⟩
      rw [range_push]
      exact L6.push hv6 hw6 np.symm
  · rintro σ H4 ⟨X4, L4, y2, y3, y4, y5, rfl⟩
    rw [Int.toNat_natCast] at L4
    exact ⟨_, rfl, q p3 H4 hp30 X4 L4⟩
def sp_count_spans (K : PySem.W.Frag) : Sp := fun vs H Q _ => ∃ n : Nat, vs = [.int (n : Int)] ∧ 1 ≤ n ∧ n ≤ 100 ∧ ∀ H', Ex H H' → Q (.int ((halN n : Nat) : Int)) H'
theorem ok_count_spans {f : Addr} {fd : FuncData} (D : DefAt K mg "count_spans" s_count_spans ["size"] f fd) (T : Top mg) (c_check_size : C8.Cal P w K mg base 3 "check_size" (sp_check_size K) []) (c_spans_counts : C8.Cal P w K mg base 1 "spans_counts" (sp_spans_counts K) []) :
    C8.Cal P w K mg base 4 "count_spans" (sp_count_spans K) [] := by
  refine D.cal sc_count_spans (fun vs H Q E h => ?len) fun cdv A outer s H vs Q E hr h => ?body
  case len => obtain ⟨n, rfl, _⟩ := h; rfl
  obtain ⟨n, rfl, n1, n2, q⟩ := h
  refine ⟨_, (pss_cons (ps_expr (C8.pe_c c_check_size hr (by decide) (by rfl) (pa_cons (pv 0) pa_nil)))
      (pss_one (ps_ret (pe_ix ix_list (pe_ix ix_list (C8.pe_c c_spans_counts hr (by decide) (by rfl) (pa_cons (pv 0) pa_nil)) (pv 0) (fun _ _ => rfl)) pe_int (fun _ _ => rfl))))), ?_⟩
  refine ⟨_, rfl, _, rfl, by omega, by omega, ?_⟩
  refine ⟨_, rfl, n, rfl, n2, fun p H1 _ X1 L1 => ?_⟩
  obtain ⟨vs, hv, hvl⟩ := L1.get
  obtain ⟨a, ha, hH⟩ := L1.at hv (range_at (f := balN n) (show n < n + 1 by omega))
  refine ⟨_, rfl, p, _, _, _, rfl, rfl, SqL.of hv, ha, a, _, _, _, rfl, rfl, SqL.of hH, vN_atI (bal_top n2), ?_⟩
  exact q H1 X1
def Sf (e l : Nat) : Nat := if e = 0 then 1 else if l ≤ e then Tf e l else 0
theorem Sf_le (e l : Nat) : Sf e l ≤ 2 ^ 200 := by
  unfold Sf
  split
  · decide
  · split
    · exact Tf_le e l
    · exact Nat.zero_le _
def srow (n e : Nat) : List Nat := (List.range (n + 2)).map (Sf e)
/-- row e while it is made: the entries from e down to above e - j -/
def shalf (n e j : Nat) : List Nat := (List.range (n + 2)).map fun l => if e - j < l ∧ l ≤ e then Tf e l else 0
def sp_still_counts (K : PySem.W.Frag) : Sp := fun vs H Q _ => ∃ n : Nat, vs = [.int (n : Int)] ∧ n ≤ 100 ∧ ∀ p H', H p = none → Ex H H' → LLN H' p ((List.range (n + 1)).map (srow n)) → Q (.ref p) H'
theorem ok_still_counts {f : Addr} {fd : FuncData} (D : DefAt K mg "still_counts" s_still_counts ["size"] f fd) (T : Top mg)  :
    C8.Cal P w K mg base 1 "still_counts" (sp_still_counts K) [] := by
  refine D.cal sc_still_counts (fun vs H Q E h => ?len) fun cdv A outer s H vs Q E hr h => ?body
  case len => obtain ⟨n, rfl, _⟩ := h; rfl
  obtain ⟨n, rfl, n2, q⟩ := h
  refine ⟨_, (pss_cons (ps_set (i := 1) sc_still_counts.nd rfl (.inl rfl) (pe_lst (pa_cons (pe_op op_rep (pe_lst (pa_cons pe_int pa_nil)) (pe_op op_add (pv 0) pe_int)) pa_nil)))
      (pss_cons (ps_for PassesOwn.never rfl (pi_range2 (by rfl) T.range (pa_cons pe_int (pa_cons (pe_op op_add (pv 0) pe_int) pa_nil))) (pg_name (i := 2) sc_still_counts.nd rfl (.inl rfl))
        (pss_cons (ps_set (i := 3) sc_still_counts.nd rfl (.inl rfl) (pe_op op_rep (pe_lst (pa_cons pe_int pa_nil)) (pe_op op_add (pv 0) pe_int)))
          (pss_cons (ps_for PassesOwn.never rfl (pi_range3 (by rfl) T.range (pa_cons (pv 2) (pa_cons pe_int (pa_cons (pe_un un_neg pe_int) pa_nil)))) (pg_name (i := 4) sc_still_counts.nd rfl (.inl rfl))
            (pss_one (ps_asg (pe_op op_add (pe_ix ix_list (pv 3) (pe_op op_add (pv 4) pe_int) (fun _ _ => rfl)) (pe_op op_mulW (pe_ix ix_list (pe_ix ix_list (pv 1) (pe_op op_sub (pv 4) pe_int) (fun _ _ => rfl)) pe_int (fun _ _ => rfl)) (pe_ix ix_list (pe_ix ix_list (pv 1) (pe_op op_sub (pv 2) (pv 4)) (fun _ _ => rfl)) (pv 4) (fun _ _ => rfl)))) (pg_sub (pv 3) (pv 4) set_list))))
          (pss_one (ps_expr (pe_bm PySem.F.plainAttrs_list PySem.F.slot_list_append PySem.F.type_list_append mt_append (pv 1) (pa_cons (pv 3) pa_nil)))))))
      (pss_one (ps_ret (pv 1))))), ?_⟩
  refine ⟨by show 1 ≤ sizeLine; decide, fun p1 hp1 => ?_⟩
  refine ⟨_, rfl, _, _, rfl, rfl, p1, _, _, rfl, rfl, upd_same, by show -(2 ^ 63) ≤ (n : Int) + 2; omega, by show (n : Int) + 2 < 2 ^ 63; omega, ?_, fun p2 hp2 => ?_⟩
  · show 1 * ((n : Int) + 2).toNat ≤ sizeLine
    exact Nat.le_trans (by omega) (show 102 ≤ sizeLine by decide)
  have e0 : (List.replicate ((n : Int) + 2).toNat [V.int 1]).flatten = vN (srow n 0) := by
    rw [rep_flat, show ((n : Int) + 2).toNat = n + 2 by omega]
    unfold vN srow Sf
    apply List.ext_getElem?
    intro k
    by_cases h : k < n + 2
    · simp [h]
    · simp [h]
  refine ⟨by show 1 ≤ sizeLine; decide, fun p3 hp3 => ?_⟩
  have hp30 : H p3 = none := Evl.fresh_back ((Evl.Ex.new hp1).trans (Evl.Ex.new hp2)) hp3
  generalize hH3 : upd (upd (upd H p1 _) p2 _) p3 _ = H3
  have X3 : Ex H H3 := by rw [← hH3]; exact ((Evl.Ex.new hp1).trans (Evl.Ex.new hp2)).trans (Evl.Ex.new hp3)
  have L3 : LLN H3 p3 ((List.range (0 + 1)).map (srow n)) := by
    rw [← hH3]
    refine ⟨_, upd_same, rfl, fun i xs hi => ?_⟩
    match i, hi with
    | 0, hi =>
      have : xs = srow n 0 := (Option.some.inj hi).symm
      subst this
      refine ⟨p2, rfl, ?_⟩
      rw [upd_ne (ne_of_none (upd_same) hp3), upd_same]
      exact congrArg (fun z => some (HO.lst z)) e0
    | i + 1, hi => exact nomatch hi
  refine ⟨_, rfl, _, _, rfl, rfl, 1, (n : Int) + 1, rfl, ⟨by omega, by omega, by omega, by omega⟩, ?_⟩
  refine for_range (lo := 1) (n := ((n : Int) + 1 - 1).toNat) (fun i σ H' => Ex H H' ∧ LLN H' p3 ((List.range (i + 1)).map (srow n)) ∧ ∃ y2 y3 y4 : Option V, σ = [some (.int (n : Int)), some (.ref p3), y2, y3, y4]) ⟨X3, L3, _, _, _, rfl⟩ ?_ ?_
  · rintro i σ H4 hi ⟨X4, L4, y2, y3, y4, rfl⟩
    have hi : i < n := by omega
    have ee : (1 : Int) + (i : Int) = ((i + 1 : Nat) : Int) := by omega
    rw [ee]
    generalize he : i + 1 = e
    refine ⟨by show 1 ≤ sizeLine; decide, fun pz hpz => ?_⟩
    refine ⟨_, rfl, _, _, rfl, rfl, pz, _, _, rfl, rfl, upd_same, by show -(2 ^ 63) ≤ (n : Int) + 2; omega, by show (n : Int) + 2 < 2 ^ 63; omega, ?_, fun wa hwa => ?_⟩
    · show 1 * ((n : Int) + 2).toNat ≤ sizeLine
      exact Nat.le_trans (by omega) (show 102 ≤ sizeLine by decide)
    have ez : (List.replicate ((n : Int) + 2).toNat [V.int 0]).flatten = vN (shalf n e 0) := by
      rw [rep_flat, show ((n : Int) + 2).toNat = n + 2 by omega]
      unfold vN shalf
      apply List.ext_getElem?
      intro k
      by_cases h : k < n + 2
      · simp [h]; rw [if_neg (by omega)]; rfl
      · simp [h]
    have X4z := Evl.Ex.new (o := .lst [V.int 0]) hpz
    have L4z := L4.ex X4z
    obtain ⟨vs, hv, hvl⟩ := L4z.get
    rw [List.length_map, List.length_range] at hvl
    generalize hHz : upd H4 pz (.lst [V.int 0]) = Hz at hwa X4z L4z hv ⊢
    have np : p3 ≠ wa := ne_of_none hv hwa
    have XH : Ex H Hz := X4.trans X4z
    refine ⟨_, rfl, _, rfl, _, _, _, e, rfl, ?_, ?_⟩
    · have := RgC.neg (i := (e : Int)) (j := 0) (by omega) (by omega) (by decide) (by decide)
      rw [show ((e : Int) - 0).toNat = e by omega] at this
      exact this
    refine for_rangeC (lo := (e : Int)) (c := -1) (n := e) (fun j σ H' => ExB wa Hz H' ∧ H' wa = some (.lst (vN (shalf n e j))) ∧ ∃ y4 : Option V, σ = [some (.int (n : Int)), some (.ref p3), some (.int (e : Int)), some (.ref wa), y4])
      ⟨ExB.of (Evl.Ex.new hwa), ?_, _, rfl⟩ ?_ ?_
    · rw [upd_same]
      exact congrArg (fun z => some (HO.lst z)) ez
    · rintro j σ H6 hj ⟨E6, hw6, y4, rfl⟩
      obtain ⟨l, hl⟩ : ∃ l, l = e - j := ⟨_, rfl⟩
      have el : (e : Int) + (j : Int) * -1 = (l : Int) := by omega
      rw [el]
      have hv6 := E6 _ _ np hv
      have L6 := L4z.exB E6 hwa
      have at1 : (shalf n e j)[l + 1]? = some (if e - j < l + 1 ∧ l + 1 ≤ e then Tf e (l + 1) else 0) := range_at (by omega)
      obtain ⟨a1, ha1, hA1⟩ := L6.at hv6 (range_at (f := srow n) (show l - 1 < i + 1 by omega))
      obtain ⟨a2, ha2, hA2⟩ := L6.at hv6 (range_at (f := srow n) (show e - l < i + 1 by omega))
      have at2 : (srow n (l - 1))[1]? = some (Sf (l - 1) 1) := range_at (by omega)
      have at3 : (srow n (e - l))[l]? = some (Sf (e - l) l) := range_at (by omega)
      have e1 : (l : Int) + 1 = ((l + 1 : Nat) : Int) := by omega
      have e2 : (l : Int) - 1 = ((l - 1 : Nat) : Int) := by omega
      have e3 : (e : Int) - (l : Int) = ((e - l : Nat) : Int) := by omega
      refine ⟨_, rfl, _, rfl, _, _, rfl, rfl, wa, _, _, _, rfl, rfl, SqL.of hw6, by rw [e1]; exact vN_atI at1, ?_⟩
      refine ⟨_, rfl, _, rfl, _, _, rfl, rfl, p3, _, _, _, rfl, rfl, SqL.of hv6, by rw [e2]; exact ha1, a1, _, _, _, rfl, rfl, SqL.of hA1, vN_atI at2, ?_⟩
      refine ⟨_, rfl, _, rfl, _, rfl, _, _, rfl, rfl, p3, _, _, _, rfl, rfl, SqL.of hv6, by rw [e3]; exact ha2, _, rfl, a2, _, _, _, rfl, rfl, SqL.of hA2, vN_atI at3, ?_⟩
      refine ⟨_, _, rfl, rfl, wide_mul (a := 201) (b := 201) (nat_abs_le (B := 0) (Sf_le _ _)) (nat_abs_le (B := 0) (Sf_le _ _)) (by decide) (by decide) (by decide), _, _, rfl, rfl, ?_⟩
      refine ⟨_, rfl, _, rfl, wa, _, _, l, rfl, rfl, hw6, ?_, ?_⟩
      · rw [vN_len]
        exact Evl.ixN_nat (by unfold shalf; rw [List.length_map, List.length_range]; omega)
      have hrec := Tf_rec (e := e) (l := l) (by omega) (by omega) (by omega)
      have hval : (if e - j < l + 1 ∧ l + 1 ≤ e then Tf e (l + 1) else 0) + Sf (l - 1) 1 * Sf (e - l) l = Tf e l := by
        rw [hrec]
        have h1 : (if e - j < l + 1 ∧ l + 1 ≤ e then Tf e (l + 1) else 0) = Tf e (l + 1) := by
          by_cases c : l + 1 ≤ e
          · rw [if_pos ⟨by omega, c⟩]
          · rw [if_neg (fun h => c h.2)]
            have : l = e := by omega
            subst this
            exact ((Tf_top (by omega) (by omega)).1).symm
        have h2 : Sf (l - 1) 1 = Tf (l - 1) 1 := by
          unfold Sf
          by_cases c : l - 1 = 0
          · rw [if_pos c, c]; rfl
          · rw [if_neg c, if_pos (by omega)]
        have h3 : Sf (e - l) l = Tf (e - l) l := by
          unfold Sf
          by_cases c : e - l = 0
          · rw [if_pos c, c]; rfl
          · rw [if_neg c]
            by_cases c2 : l ≤ e - l
            · rw [if_pos c2]
            · rw [if_neg c2]
              exact (Tf_over (by omega) (by omega) (by omega)).symm
        rw [h1, h2, h3]
      refine ⟨E6.trans ExB.upd, ?_, _, rfl⟩
      rw [upd_same]
      refine congrArg (fun z => some (HO.lst z)) ?_
      refine Eq.trans (b := (vN (shalf n e j)).set l (.int ((Tf e l : Nat) : Int))) ?_ ?_
      · rw [← hval]
        push_cast
        rfl
      · rw [set_vN]
        refine congrArg vN ?_
        unfold shalf
        rw [set_rangeN]
        refine List.map_congr_left fun k _ => ?_
        by_cases c : k = l
        · rw [if_pos c, if_pos (by omega), c]
        · rw [if_neg c]
          by_cases c2 : e - j < k ∧ k ≤ e
          · rw [if_pos c2, if_pos (by omega)]
          · rw [if_neg c2, if_neg (by omega)]
    · rintro σ H6 ⟨E6, hw6, y4, rfl⟩
      have hfull : shalf n e e = srow n e := by
        unfold shalf srow Sf
        refine List.map_congr_left fun k _ => ?_
        rw [if_neg (show ¬ e = 0 by omega)]
        by_cases c : k = 0
        · subst c
          rw [if_neg (by omega), if_pos (Nat.zero_le _)]
          exact ((Tf_top (by omega) (by omega)).2).symm
        · by_cases c2 : k ≤ e
          · rw [if_pos (by omega), if_pos c2]
          · rw [if_neg (by omega), if_neg c2]
      rw [hfull] at hw6
      have hv6 := E6 _ _ np hv
      have L6 := L4z.exB E6 hwa
      have X6 : Ex H H6 := fun b o hb => E6 b o (ne_of_none hb (Evl.fresh_back XH hwa)) (XH b o hb)
      refine ⟨_, rfl, .inl ⟨rfl, _, SqL.of hv6⟩, _, rfl, p3, _, _, rfl, rfl, hv6, ?_, ?_⟩
      · exact small1000 (by omega)
      refine ⟨Evl.Ex.mut X6 hp30, ?_, _, _, _, rfl⟩
      rw [range_push]
      rw [he] at L6
      exact L6.push hv6 hw6 np.symm
  · rintro σ H4 ⟨X4, L4, y2, y3, y4, rfl⟩
    rw [show ((n : Int) + 1 - 1).toNat = n by omega] at L4
    exact ⟨_, rfl, q p3 H4 hp30 X4 L4⟩
def sp_count_still (K : PySem.W.Frag) : Sp := fun vs H Q _ => ∃ n : Nat, vs = [.int (n : Int)] ∧ 1 ≤ n ∧ n ≤ 100 ∧ ∀ H', Ex H H' → Q (.int ((Tf n 1 : Nat) : Int)) H'
theorem ok_count_still {f : Addr} {fd : FuncData} (D : DefAt K mg "count_still" s_count_still ["size"] f fd) (T : Top mg) (c_check_size : C8.Cal P w K mg base 3 "check_size" (sp_check_size K) []) (c_still_counts : C8.Cal P w K mg base 1 "still_counts" (sp_still_counts K) []) :
    C8.Cal P w K mg base 4 "count_still" (sp_count_still K) [] := by
  refine D.cal sc_count_still (fun vs H Q E h => ?len) fun cdv A outer s H vs Q E hr h => ?body
  case len => obtain ⟨n, rfl, _⟩ := h; rfl
  obtain ⟨n, rfl, n1, n2, q⟩ := h
  refine ⟨_, (pss_cons (ps_expr (C8.pe_c c_check_size hr (by decide) (by rfl) (pa_cons (pv 0) pa_nil)))
      (pss_one (ps_ret (pe_ix ix_list (pe_ix ix_list (C8.pe_c c_still_counts hr (by decide) (by rfl) (pa_cons (pv 0) pa_nil)) (pv 0) (fun _ _ => rfl)) pe_int (fun _ _ => rfl))))), ?_⟩
  refine ⟨_, rfl, _, rfl, by omega, by omega, ?_⟩
  refine ⟨_, rfl, n, rfl, n2, fun p H1 _ X1 L1 => ?_⟩
  obtain ⟨vs, hv, hvl⟩ := L1.get
  obtain ⟨a, ha, hH⟩ := L1.at hv (range_at (f := srow n) (show n < n + 1 by omega))
  have at1 : (srow n n)[1]? = some (Tf n 1) := by
    have : (srow n n)[1]? = some (Sf n 1) := range_at (by omega)
    rw [this]
    unfold Sf
    rw [if_neg (by omega), if_pos n1]
  refine ⟨_, rfl, p, _, _, _, rfl, rfl, SqL.of hv, ha, a, _, _, _, rfl, rfl, SqL.of hH, vN_atI at1, ?_⟩
  exact q H1 X1
def sp_check_number (K : PySem.W.Frag) : Sp := fun vs H Q _ => ∃ v n, vs = [.int v, .int n] ∧ 0 ≤ v ∧ v < n ∧ Q .non H
theorem ok_check_number {f : Addr} {fd : FuncData} (D : DefAt K mg "check_number" s_check_number ["number", "count"] f fd) (T : Top mg) (c_is_whole : C8.Cal P w K mg base 2 "is_whole" (sp_is_whole K) []) :
    C8.Cal P w K mg base 3 "check_number" (sp_check_number K) [] := by
  refine D.cal sc_check_number (fun vs H Q E h => ?len) fun cdv A outer s H vs Q E hr h => ?body
  case len => obtain ⟨v, lo, rfl, _⟩ := h; rfl
  obtain ⟨v, n, rfl, h0, h1, q⟩ := h
  refine ⟨_, (pss_one (ps_if (pt_not (pt_val (C8.pe_c c_is_whole hr (by decide) (by rfl) (pa_cons (pv 0) (pa_cons pe_int (pa_cons (pe_op op_sub (pv 1) pe_int) pa_nil))))))
        (pss_one ps_never)
        pss_nil)), ?_⟩
  refine ⟨_, rfl, _, rfl, _, _, rfl, rfl, _, _, _, rfl, _, rfl, ?_⟩
  rw [decide_eq_true (show (0 : Int) ≤ v ∧ v ≤ n - 1 from ⟨h0, by omega⟩)]
  exact q
theorem last_take {ts : List Int} {k : Nat} (h : k < ts.length) : ((ts.take (k + 1)).map V.int)[((ts.take (k + 1)).map V.int).length - 1]? = some (.int (g ts k)) := by
  rw [List.length_map, List.length_take, Nat.min_eq_left (by omega), Nat.add_sub_cancel, List.getElem?_map, List.getElem?_take, if_pos (by omega), g_get h]; rfl
theorem take_dropLast {ts : List Int} {k : Nat} (h : k < ts.length) : ((ts.take (k + 1)).map V.int).dropLast = (ts.take k).map V.int := by
  rw [List.dropLast_eq_take, List.length_map, List.length_take, Nat.min_eq_left (by omega), Nat.add_sub_cancel, ← List.map_take, List.take_take, Nat.min_eq_left (by omega)]
theorem drop_sum_succ {ts : List Int} {k : Nat} (h : k < ts.length) : (ts.drop k).sum = g ts k + (ts.drop (k + 1)).sum := by
  rw [List.drop_eq_getElem_cons h, List.sum_cons]
  have := g_get h
  rw [List.getElem?_eq_getElem h] at this
  rw [Option.some.inj this]
theorem drop_cons {xs : List Int} {i : Nat} (h : i < xs.length) : xs.drop i = g xs i :: xs.drop (i + 1) := by
  rw [List.drop_eq_getElem_cons h]
  have := g_get h
  rw [List.getElem?_eq_getElem h] at this
  rw [Option.some.inj this]
def sp_spans_number (K : PySem.W.Frag) : Sp := fun vs H Q _ => ∃ a, ∃ xs : List Int, vs = [.ref a] ∧ SqT K H a (xs.map V.int) ∧ Lam xs ∧ 1 ≤ xs.length ∧ xs.length ≤ 100 ∧ ∀ (r : Nat) H', Rk [] xs r → Ex H H' → Q (.int (r : Int)) H'
theorem ok_spans_number {f : Addr} {fd : FuncData} (D : DefAt K mg "spans_number" s_spans_number ["spans"] f fd) (T : Top mg) (c_check_spans : C8.Cal P w K mg base 6 "check_spans" (sp_check_spans K) []) (c_spans_counts : C8.Cal P w K mg base 1 "spans_counts" (sp_spans_counts K) []) :
    C8.Cal P w K mg base 7 "spans_number" (sp_spans_number K) [] := by
  refine D.cal sc_spans_number (fun vs H Q E h => ?len) fun cdv A outer s H vs Q E hr h => ?body
  case len => obtain ⟨a, xs, rfl, _⟩ := h; rfl
  obtain ⟨a, xs, rfl, hS, L, h0, h1, q⟩ := h
  refine ⟨_, (pss_cons (ps_expr (C8.pe_c c_check_spans hr (by decide) (by rfl) (pa_cons (pv 0) pa_nil)))
      (pss_cons (ps_set (i := 1) sc_spans_number.nd rfl (.inl rfl) (C8.pe_c c_spans_counts hr (by decide) (by rfl) (pa_cons (pe_callB call_len_seq (by rfl) T.len (by decide +kernel) (pa_cons (pv 0) pa_nil)) pa_nil)))
      (pss_cons (ps_set (i := 2) sc_spans_number.nd rfl (.inl rfl) pe_int)
      (pss_cons (ps_set (i := 3) sc_spans_number.nd rfl (.inl rfl) (pe_lst pa_nil))
      (pss_cons (ps_for PassesOwn.never rfl (pi_enumT (by rfl) T.enumerate (pa_cons (pv 0) pa_nil)) (pg_tup rfl (pgs_cons (pg_name (i := 4) sc_spans_number.nd rfl (.inl rfl)) (pgs_cons (pg_name (i := 5) sc_spans_number.nd rfl (.inl rfl)) pgs_nil)))
        (pss_cons (ps_set (i := 6) sc_spans_number.nd rfl (.inl rfl) pe_int)
          (pss_cons (ps_while PassesOwn.never (pt_cmpR op_lt (pv 6) (pv 5) (nomark _))
            (pss_cons (ps_set (i := 2) sc_spans_number.nd rfl (.inl rfl) (pe_op op_add (pv 2) (pe_ix ix_list (pe_ix ix_list (pv 1) (pe_op op_sub (pe_op op_sub (pe_callB call_len_seq (by rfl) T.len (by decide +kernel) (pa_cons (pv 0) pa_nil)) pe_int) (pv 4)) (fun _ _ => rfl)) (pe_op op_add (pe_callB call_len_seq (by rfl) T.len (by decide +kernel) (pa_cons (pv 3) pa_nil)) pe_int) (fun _ _ => rfl))))
              (pss_one (ps_set (i := 6) sc_spans_number.nd rfl (.inl rfl) (pe_op op_add (pv 6) (pe_bm0 PySem.F.plainAttrs_list PySem.F.slot_list_pop PySem.F.type_list_pop mt_pop (pv 3)))))))
          (pss_one (ps_expr (pe_bm PySem.F.plainAttrs_list PySem.F.slot_list_append PySem.F.type_list_append mt_append (pv 3) (pa_cons (pv 5) pa_nil)))))))
      (pss_one (ps_ret (pv 2)))))))), ?_⟩
  obtain ⟨R, hR⟩ := rank_ex L
  refine ⟨_, rfl, a, xs, rfl, hS, L, h0, h1, fun H1 X1 => ?_⟩
  refine ⟨_, rfl, a, _, rfl, .inr (Evl.ex_t X1 hS), ?_⟩
  rw [List.length_map]
  refine ⟨xs.length, rfl, h1, fun p H2 _ X2 L2 => ?_⟩
  refine ⟨Nat.zero_le _, fun fl hfl => ?_⟩
  have X3 := Evl.Ex.new (o := .lst []) hfl
  have hS2 := Evl.ex_t (X1.trans X2) hS
  refine ⟨_, rfl, a, _, rfl, Evl.ex_t X3 hS2, ?_⟩
  refine for_enumT (K := K) (a := a) (xs := xs.map V.int) (fun i σ H' => Ex H2 H' ∧ ∃ (acc : Nat) (ts : List Int) (y4 y5 y6 : Option V), H' fl = some (.lst (ts.map V.int)) ∧ (∀ t ∈ ts, 1 ≤ t) ∧ ts.length ≤ i ∧ (∃ r, Rk ts (xs.drop i) r ∧ acc + r = R) ∧
      σ = [some (.ref a), some (.ref p), some (.int acc), some (.ref fl), y4, y5, y6])
    ⟨X3, 0, [], _, _, _, upd_same, fun t h => (List.not_mem_nil h).elim, Nat.le_refl _, ⟨R, hR, Nat.zero_add R⟩, rfl⟩ (fun i σ H' h => Evl.ex_t h.1 hS2) ?_ ?_
  · rintro i x T' σ H3 hx ⟨X4, acc, ts, y4, y5, y6, hts, hp, htl, ⟨r, hr, hacc⟩, rfl⟩ hT
    have hi : i < xs.length := by
      have := (List.getElem?_eq_some_iff.mp hx).1
      rwa [List.length_map] at this
    have ex : x = .int (g xs i) := by
      rw [List.getElem?_map, g_get hi] at hx
      exact (Option.some.inj hx).symm
    subst ex
    have X5 := Evl.Ex.new (o := .tup [.int (i : Nat), .int (g xs i)]) hT
    have X25 := X4.trans X5
    have hts5 := X5 _ _ hts
    refine ⟨T', _, rfl, SqT.of upd_same, rfl, _, _, rfl, _, _, rfl, rfl, ?_⟩
    generalize upd H3 T' (.tup [.int (i : Nat), .int (g xs i)]) = H4 at X25 hts5 ⊢
    clear X5 hT hts X4
    rw [drop_cons hi] at hr
    generalize g xs i = e at hr ⊢
    obtain ⟨l, hl⟩ : ∃ l, (xs.drop (i + 1)).length = l := ⟨_, rfl⟩
    have hl2 : l + 1 + i = xs.length := by rw [← hl, List.length_drop]; omega
    cases hr with
    | @cons _ _ _ k r hk he hr =>
      rw [hl] at hacc
      refine ⟨fun m σ H' => Ex H2 H' ∧ ∃ j : Nat, j ≤ ts.length - k ∧ m = ts.length - k - j ∧ H' fl = some (.lst ((ts.take (ts.length - j)).map V.int)) ∧
          σ = [some (.ref a), some (.ref p), some (.int ((acc + addN l ts.length j : Nat) : Int)), some (.ref fl), some (.int (i : Nat)), some (.int e), some (.int (1 + (ts.drop (ts.length - j)).sum))],
        ⟨_, X25, 0, Nat.zero_le _, rfl, by rw [Nat.sub_zero, List.take_length]; exact hts5, by rw [Nat.sub_zero, List.drop_length]; rfl⟩, ?_⟩
      rintro m σ H5 ⟨X5, j, hj, rfl, hfl5, rfl⟩
      refine ⟨_, rfl, _, rfl, _, _, rfl, rfl, _, rfl, ite2 (fun c => ?_) fun c => ?_⟩
      · have c := of_decide_eq_true c
        have hjk : j < ts.length - k := by
          rcases Nat.lt_or_ge j (ts.length - k) with h | h
          · exact h
          · exfalso
            have ej : ts.length - j = k := by omega
            rw [ej] at c
            omega
        refine ⟨_, fun _ _ h => h, ?_⟩
        obtain ⟨vs, aa, us, hv, hat, hH, hat2⟩ := (L2.ex X5).bal (l := l) (r := ts.length - j + 1) (by omega) (by omega)
        obtain ⟨d, hd⟩ : ∃ d, ts.length - j = d + 1 := ⟨ts.length - j - 1, by omega⟩
        have hdt : d < ts.length := by omega
        rw [hd] at hfl5
        refine ⟨_, rfl, _, rfl, _, rfl, a, _, rfl, .inr (Evl.ex_t X5 hS2), _, _, rfl, rfl, _, rfl, _, _, rfl, rfl, p, vs, _, .ref aa, rfl, rfl, SqL.of hv, ?_, _, rfl, fl, _, rfl, .inl (SqL.of hfl5), _, _, rfl, rfl, aa, us, _, .int ((wys l (ts.length - j + 1) : Nat) : Int), rfl, rfl, SqL.of hH, ?_, _, _, rfl, rfl, ?_⟩
        · rw [List.length_map, show ((xs.length : Nat) : Int) - 1 - ((i : Nat) : Int) = ((l : Nat) : Int) by omega]; exact hat
        · rw [List.length_map, List.length_take, Nat.min_eq_left (by omega), show (((d + 1 : Nat) : Int) + 1) = ((d + 1 + 1 : Nat) : Int) by omega, ← hd]; exact hat2
        refine ⟨_, rfl, _, rfl, .inl ⟨rfl, _, SqL.of hfl5⟩, fl, _, _, rfl, rfl, hfl5, last_take hdt, _, _, rfl, rfl, ?_⟩
        refine ⟨_, by omega, Evl.Ex.mut X5 hfl, j + 1, by omega, rfl, ?_, ?_⟩
        · rw [upd_same, take_dropLast hdt, show ts.length - (j + 1) = d by omega]
        · rw [show ts.length - (j + 1) = d by omega, drop_sum_succ hdt, hd]
          show [_, _, some (V.int (((acc + addN l ts.length j : Nat) : Int) + ((wys l (d + 1 + 1) : Nat) : Int))), _, _, _, some (V.int (1 + (ts.drop (d + 1)).sum + g ts d))] = _
          have e1 : ((acc + addN l ts.length j : Nat) : Int) + ((wys l (d + 1 + 1) : Nat) : Int) = ((acc + addN l ts.length (j + 1) : Nat) : Int) := by
            show _ = ((acc + (addN l ts.length j + wys l (ts.length - j + 1)) : Nat) : Int)
            rw [hd]; omega
          have e2 : 1 + (ts.drop (d + 1)).sum + g ts d = 1 + (g ts d + (ts.drop (d + 1)).sum) := by omega
          rw [e1, e2]
      · have hjk : j = ts.length - k := by
          have c : ¬ (1 + (ts.drop (ts.length - j)).sum < e) := fun h => c (decide_eq_true h)
          rcases Nat.lt_or_ge j (ts.length - k) with h | h
          · exfalso
            have := drop_sum_lt hp (show ts.length - j ≤ ts.length by omega) (show k < ts.length - j by omega)
            omega
          · omega
        subst hjk
        rw [show ts.length - (ts.length - k) = k by omega] at hfl5 ⊢
        refine ⟨_, rfl, .inl ⟨rfl, _, SqL.of hfl5⟩, _, rfl, fl, _, _, rfl, rfl, hfl5, ?_, ?_⟩
        · rw [List.length_map, List.length_take]; exact small1000 (by omega)
        refine ⟨Evl.Ex.mut X5 hfl, _, ts.take k ++ [e], _, _, _, ?_, push_pos hp he, by rw [take_push_len hk]; omega, ⟨r, hr, by omega⟩, rfl⟩
        rw [upd_same, List.map_append]; rfl
  · rintro σ H3 ⟨X4, acc, ts, y4, y5, y6, hts, hp, htl, ⟨r, hr, hacc⟩, rfl⟩
    rw [List.length_map, List.drop_length] at hr
    cases hr
    refine ⟨_, rfl, ?_⟩
    rw [Nat.add_zero] at hacc
    rw [hacc]
    exact q R H3 hR ((X1.trans X2).trans X4)
def sp_nth_spans (K : PySem.W.Frag) : Sp := fun vs H Q _ => ∃ n N : Nat, vs = [.int (n : Int), .int (N : Int)] ∧ 1 ≤ n ∧ n ≤ 100 ∧ N < wys n 0 ∧
  ∀ b H' xs, H b = none → Ex H H' → H' b = some (.tup (xs.map V.int)) → Rk [] xs N → xs.length = n → Q (.ref b) H'
theorem ok_nth_spans {f : Addr} {fd : FuncData} (D : DefAt K mg "nth_spans" s_nth_spans ["size", "number"] f fd) (T : Top mg) (c_check_size : C8.Cal P w K mg base 3 "check_size" (sp_check_size K) []) (c_spans_counts : C8.Cal P w K mg base 1 "spans_counts" (sp_spans_counts K) []) (c_check_number : C8.Cal P w K mg base 3 "check_number" (sp_check_number K) []) :
    C8.Cal P w K mg base 4 "nth_spans" (sp_nth_spans K) [] := by
  refine D.cal sc_nth_spans (fun vs H Q E h => ?len) fun cdv A outer s H vs Q E hr h => ?body
  case len => obtain ⟨a, xs, rfl, _⟩ := h; rfl
  obtain ⟨n, N, rfl, n1, n2, hN, q⟩ := h
  refine ⟨_, (pss_cons (ps_expr (C8.pe_c c_check_size hr (by decide) (by rfl) (pa_cons (pv 0) pa_nil)))
      (pss_cons (ps_set (i := 2) sc_nth_spans.nd rfl (.inl rfl) (C8.pe_c c_spans_counts hr (by decide) (by rfl) (pa_cons (pv 0) pa_nil)))
      (pss_cons (ps_expr (C8.pe_c c_check_number hr (by decide) (by rfl) (pa_cons (pv 1) (pa_cons (pe_ix ix_list (pe_ix ix_list (pv 2) (pv 0) (fun _ _ => rfl)) pe_int (fun _ _ => rfl)) pa_nil))))
      (pss_cons (ps_set (i := 3) sc_nth_spans.nd rfl (.inl rfl) (pe_lst pa_nil))
      (pss_cons (ps_set (i := 4) sc_nth_spans.nd rfl (.inl rfl) (pe_lst pa_nil))
      (pss_cons (ps_for PassesOwn.never rfl (pi_range3 (by rfl) T.range (pa_cons (pe_op op_sub (pv 0) pe_int) (pa_cons (pe_un un_neg pe_int) (pa_cons (pe_un un_neg pe_int) pa_nil)))) (pg_name (i := 5) sc_nth_spans.nd rfl (.inl rfl))
        (pss_cons (ps_set (i := 6) sc_nth_spans.nd rfl (.inl rfl) pe_int)
          (pss_cons (ps_while PassesOwn.never (pt_cmpR op_ge (pv 1) (pe_ix ix_list (pe_ix ix_list (pv 2) (pv 5) (fun _ _ => rfl)) (pe_op op_add (pe_callB call_len_seq (by rfl) T.len (by decide +kernel) (pa_cons (pv 4) pa_nil)) pe_int) (fun _ _ => rfl)) (nomark _))
            (pss_cons (ps_set (i := 1) sc_nth_spans.nd rfl (.inl rfl) (pe_op op_sub (pv 1) (pe_ix ix_list (pe_ix ix_list (pv 2) (pv 5) (fun _ _ => rfl)) (pe_op op_add (pe_callB call_len_seq (by rfl) T.len (by decide +kernel) (pa_cons (pv 4) pa_nil)) pe_int) (fun _ _ => rfl))))
              (pss_one (ps_set (i := 6) sc_nth_spans.nd rfl (.inl rfl) (pe_op op_add (pv 6) (pe_bm0 PySem.F.plainAttrs_list PySem.F.slot_list_pop PySem.F.type_list_pop mt_pop (pv 4)))))))
          (pss_cons (ps_expr (pe_bm PySem.F.plainAttrs_list PySem.F.slot_list_append PySem.F.type_list_append mt_append (pv 4) (pa_cons (pv 6) pa_nil)))
          (pss_one (ps_expr (pe_bm PySem.F.plainAttrs_list PySem.F.slot_list_append PySem.F.type_list_append mt_append (pv 3) (pa_cons (pv 6) pa_nil))))))))
      (pss_one (ps_ret (pe_callTy call_tuple_of (by rfl) T.tuple (by decide +kernel) (pa_cons (pv 3) pa_nil)))))))))), ?_⟩
  refine ⟨_, rfl, _, rfl, by omega, by omega, ?_⟩
  refine ⟨_, rfl, n, rfl, n2, fun p H2 _ X2 L2 => ?_⟩
  obtain ⟨vs, aa, us, hv, hat, hH, hat2⟩ := L2.bal (l := n) (r := 0) (Nat.le_refl n) (by omega)
  refine ⟨_, rfl, _, rfl, _, rfl, p, vs, _, _, rfl, rfl, SqL.of hv, hat, aa, us, _, _, rfl, rfl, SqL.of hH, hat2, _, _, rfl, by omega, by omega, ?_⟩
  refine ⟨Nat.zero_le _, fun sl hsl => ?_⟩
  have X3 := Evl.Ex.new (o := .lst []) hsl
  refine ⟨Nat.zero_le _, fun rl hrl => ?_⟩
  have X4 := Evl.Ex.new (o := .lst []) hrl
  have hrl2 : H2 rl = none := Evl.fresh_back X3 hrl
  have nsr : sl ≠ rl := ne_of_none upd_same hrl
  have hs4 := X4 _ _ (show (upd H2 sl (.lst [])) sl = some (.lst []) from upd_same)
  have hr4 : (upd (upd H2 sl (.lst [])) rl (.lst [])) rl = some (.lst []) := upd_same
  replace X4 := X3.trans X4
  clear X3 hrl hv hat hH hat2
  generalize upd (upd H2 sl (.lst [])) rl (.lst []) = H4 at *
  refine ⟨_, rfl, _, _, rfl, rfl, _, rfl, _, rfl, _, _, _, n, rfl, ?_, ?_⟩
  · have := RgC.neg (i := (n : Int) - 1) (j := -1) (by omega) (by omega) (by decide) (by decide)
    rw [show ((n : Int) - 1 - -1).toNat = n by omega] at this
    exact this
  refine for_rangeC (lo := (n : Int) - 1) (c := -1) (n := n) (fun i σ H' => Ex H2 H' ∧ ∃ (num : Nat) (ts ys : List Int) (y5 y6 : Option V), H' sl = some (.lst (ys.map V.int)) ∧ H' rl = some (.lst (ts.map V.int)) ∧ ys.length = i ∧ (∀ t ∈ ts, 1 ≤ t) ∧ ts.length ≤ i ∧ num < wys (n - i) ts.length ∧
      (∀ es, es.length = n - i → Rk ts es num → Rk [] (ys ++ es) N) ∧ σ = [some (.int (n : Int)), some (.int (num : Int)), some (.ref p), some (.ref sl), some (.ref rl), y5, y6])
    ⟨X4, N, [], [], _, _, hs4, hr4, rfl, fun t h => (List.not_mem_nil h).elim, Nat.le_refl _, by rw [Nat.sub_zero]; exact hN, fun es _ h => h, rfl⟩ ?_ ?_
  · rintro i σ H5 hi ⟨X5, num, ts, ys, y5, y6, hsl5, hrl5, hyl, hp, htl, hnum, hes, rfl⟩
    obtain ⟨l, hl⟩ : ∃ l, n - i = l + 1 := ⟨n - i - 1, by omega⟩
    rw [hl] at hnum hes
    have el : (n : Int) - 1 + (i : Int) * -1 = (l : Int) := by omega
    rw [el]
    rw [cnt_all] at hnum
    refine ⟨fun m σ H' => Ex H2 H' ∧ ∃ j : Nat, j ≤ ts.length ∧ m = ts.length - j ∧ addN l ts.length j ≤ num ∧ H' sl = some (.lst (ys.map V.int)) ∧ H' rl = some (.lst ((ts.take (ts.length - j)).map V.int)) ∧
        σ = [some (.int (n : Int)), some (.int ((num - addN l ts.length j : Nat) : Int)), some (.ref p), some (.ref sl), some (.ref rl), some (.int (l : Int)), some (.int (1 + (ts.drop (ts.length - j)).sum))],
      ⟨_, X5, 0, Nat.zero_le _, rfl, Nat.zero_le _, hsl5, by rw [Nat.sub_zero, List.take_length]; exact hrl5, by rw [Nat.sub_zero, List.drop_length]; rfl⟩, ?_⟩
    rintro m σ H6 ⟨X6, j, hj, rfl, ha, hsl6, hrl6, rfl⟩
    obtain ⟨vs, aa, us, hv, hat, hH, hat2⟩ := (L2.ex X6).bal (l := l) (r := ts.length - j + 1) (by omega) (by omega)
    have htk : (ts.take (ts.length - j)).length = ts.length - j := by rw [List.length_take]; omega
    have hadd : addN l ts.length (j + 1) = addN l ts.length j + wys l (ts.length - j + 1) := rfl
    refine ⟨_, rfl, _, rfl, _, rfl, p, vs, _, _, rfl, rfl, SqL.of hv, hat, _, rfl, rl, _, rfl, .inl (SqL.of hrl6), _, _, rfl, rfl, aa, us, _, .int ((wys l (ts.length - j + 1) : Nat) : Int), rfl, rfl, SqL.of hH, ?_, _, _, rfl, rfl, _, rfl, ite2 (fun c => ?_) fun c => ?_⟩
    · rw [List.length_map, htk]; exact hat2
    · have c : ((wys l (ts.length - j + 1) : Nat) : Int) ≤ ((num - addN l ts.length j : Nat) : Int) := of_decide_eq_true c
      have hjm : j < ts.length := by
        rcases Nat.lt_or_ge j ts.length with h | h
        · exact h
        · exfalso
          have ej : j = ts.length := by omega
          subst ej
          omega
      refine ⟨_, fun _ _ h => h, ?_⟩
      obtain ⟨d, hd⟩ : ∃ d, ts.length - j = d + 1 := ⟨ts.length - j - 1, by omega⟩
      have hdt : d < ts.length := by omega
      refine ⟨_, rfl, _, rfl, _, rfl, p, vs, _, _, rfl, rfl, SqL.of hv, hat, _, rfl, rl, _, rfl, .inl (SqL.of hrl6), _, _, rfl, rfl, aa, us, _, .int ((wys l (ts.length - j + 1) : Nat) : Int), rfl, rfl, SqL.of hH, ?_, _, _, rfl, rfl, ?_⟩
      · rw [List.length_map, htk]; exact hat2
      rw [hd] at hrl6
      refine ⟨_, rfl, _, rfl, .inl ⟨rfl, _, SqL.of hrl6⟩, rl, _, _, rfl, rfl, hrl6, last_take hdt, _, _, rfl, rfl, ?_⟩
      refine ⟨_, by omega, Evl.Ex.mut X6 hrl2, j + 1, by omega, rfl, by omega, by rw [upd_ne nsr]; exact hsl6, ?_, ?_⟩
      · rw [upd_same, take_dropLast hdt, show ts.length - (j + 1) = d by omega]
      · rw [show ts.length - (j + 1) = d by omega, drop_sum_succ hdt, hadd, hd]
        show [_, some (V.int (((num - addN l ts.length j : Nat) : Int) - ((wys l (d + 1 + 1) : Nat) : Int))), _, _, _, _, some (V.int (1 + (ts.drop (d + 1)).sum + g ts d))] = _
        rw [hd] at c
        have e1 : ((num - addN l ts.length j : Nat) : Int) - ((wys l (d + 1 + 1) : Nat) : Int) = ((num - (addN l ts.length j + wys l (d + 1 + 1)) : Nat) : Int) := by omega
        have e2 : 1 + (ts.drop (d + 1)).sum + g ts d = 1 + (g ts d + (ts.drop (d + 1)).sum) := by omega
        rw [e1, e2]
    · have c : ¬ ((wys l (ts.length - j + 1) : Nat) : Int) ≤ ((num - addN l ts.length j : Nat) : Int) := fun h => c (decide_eq_true h)
      refine ⟨_, rfl, .inl ⟨rfl, _, SqL.of hrl6⟩, _, rfl, rl, _, _, rfl, rfl, hrl6, ?_, ?_⟩
      · rw [List.length_map, htk]; exact small1000 (by omega)
      have hsl7 : (upd H6 rl (.lst ((ts.take (ts.length - j)).map V.int ++ [.int (1 + (ts.drop (ts.length - j)).sum)]))) sl = some (.lst (ys.map V.int)) := by rw [upd_ne nsr]; exact hsl6
      refine ⟨_, rfl, .inl ⟨rfl, _, SqL.of hsl7⟩, _, rfl, sl, _, _, rfl, rfl, hsl7, ?_, ?_⟩
      · rw [List.length_map]; exact small1000 (by omega)
      have hk : ts.length - j ≤ ts.length := Nat.sub_le _ _
      refine ⟨Evl.Ex.mut (Evl.Ex.mut X6 hrl2) hsl, _, ts.take (ts.length - j) ++ [1 + (ts.drop (ts.length - j)).sum], ys ++ [1 + (ts.drop (ts.length - j)).sum], _, _, ?_, ?_, by rw [List.length_append, hyl]; rfl, push_pos hp rfl, by rw [take_push_len hk]; omega, ?_, fun es he hr => ?_, rfl⟩
      · rw [upd_same, List.map_append]; rfl
      · rw [upd_ne nsr.symm, upd_same, List.map_append]; rfl
      · rw [take_push_len hk, show n - (i + 1) = l by omega]; omega
      · rw [List.append_assoc]
        have hlen : es.length = l := by omega
        refine hes _ (by show es.length + 1 = _; omega) ?_
        have := Rk.cons hk rfl hr
        rw [hlen, show ts.length - (ts.length - j) = j by omega, show addN l ts.length j + (num - addN l ts.length j) = num by omega] at this
        exact this
  · rintro σ H5 ⟨X5, num, ts, ys, y5, y6, hsl5, hrl5, hyl, hp, htl, hnum, hes, rfl⟩
    rw [Nat.sub_self] at hnum hes
    have hn0 : num = 0 := Nat.lt_one_iff.mp hnum
    subst hn0
    have hk := hes [] rfl .nil
    rw [List.append_nil] at hk
    refine ⟨_, rfl, sl, _, rfl, .inl ⟨SqL.of hsl5, fun r hr' => ?_⟩⟩
    have X := X2.trans X5
    exact q r _ ys (Evl.fresh_back X hr') (X.trans (Evl.Ex.new hr')) upd_same hk hyl
theorem Sg_le (e l : Nat) : Sg e l ≤ 2 ^ 200 := by
  unfold Sg
  split
  · decide
  · split
    · exact Tf_le e l
    · exact Nat.zero_le _
theorem sf_sg (e l : Nat) : Sf e l = Sg e l := rfl
/-- a number out of the table of still rows -/
theorem srow_bal {H : Hp} {p : Addr} {N : Nat} (h : LLN H p ((List.range (N + 1)).map (srow N))) {e l : Nat} (he : e ≤ N) (hl : l < N + 2) :
    ∃ vs a us, H p = some (.lst vs) ∧ atI vs ((e : Nat) : Int) = some (.ref a) ∧ H a = some (.lst us) ∧ atI us ((l : Nat) : Int) = some (.int (Sg e l : Nat)) := by
  obtain ⟨vs, hv, hvl⟩ := h.get
  obtain ⟨a, ha, hH⟩ := h.at hv (range_at (f := srow N) (show e < N + 1 by omega))
  exact ⟨vs, a, _, hv, ha, hH, vN_atI (range_at (by omega))⟩
theorem st_le {l : Nat} {xs : List Int} {n : Nat} (h : St l xs n) : l ≤ xs.length ∨ xs = [] := by
  cases h with
  | nil => exact .inr rfl
  | @cons _ r inner pre _ _ _ h2 _ hl _ => rw [st_len pre inner r hl]; exact .inl (by omega)
def numS : Nat → PySem.W.Frag → Sp
  | 0, _ => fun _ _ _ _ => False
  | d + 1, K => fun vs H Q _ => ∃ c b, ∃ (N : Nat) (xs : List Int) (num : Nat), vs = [.ref c, .ref b] ∧ LLN H c ((List.range (N + 1)).map (srow N)) ∧ N ≤ 100 ∧ SqT K H b (xs.map V.int) ∧ xs.length ≤ N ∧ xs.length ≤ d ∧ St 1 xs num ∧
      ∀ H', Ex H H' → Q (.int (num : Int)) H'
theorem num_step {f : Addr} {fd : FuncData} (D : DefAt K mg "number_in" s_number_in ["counts", "row"] f fd) (T : Top mg) (n : Nat) (c_number_in : C8.Cal P w K mg base (n + 1) "number_in" (numS n K) []) :
    C8.Cal P w K mg base (n + 1 + 1) "number_in" (numS (n + 1) K) [] := by
  refine D.cal sc_number_in (fun vs H Q E h => ?len) fun cdv A outer s H vs Q E hr h => ?body
  case len => obtain ⟨c, b, N, xs, num, rfl, _⟩ := h; rfl
  obtain ⟨c, b, N, xs, num, rfl, L0, hN, hS, hx, hd, hst, q⟩ := h
  refine ⟨_, (pss_cons (ps_set (i := 2) sc_number_in.nd rfl (.inl rfl) pe_int)
      (pss_cons (ps_set (i := 3) sc_number_in.nd rfl (.inl rfl) pe_int)
      (pss_cons (ps_while PassesOwn.never (pt_truth (pv 1) (by intro _; rfl))
        (pss_cons (ps_set (i := 4) sc_number_in.nd rfl (.inl rfl) (pe_ix ix_tup (pv 1) (pe_un un_neg pe_int) (fun _ _ => rfl)))
          (pss_cons (ps_set (i := 5) sc_number_in.nd rfl (.inl rfl) (pe_op op_sub (pe_callB call_len_seq (by rfl) T.len (by decide +kernel) (pa_cons (pv 1) pa_nil)) (pv 4)))
          (pss_cons (ps_set (i := 6) sc_number_in.nd rfl (.inl rfl) (C8.pe_c c_number_in hr (Nat.le_refl _) (by rfl) (pa_cons (pv 0) (pa_cons (pe_slice sl_tupA (pv 1) (po_some (pv 5)) (po_some (pe_un un_neg pe_int))) pa_nil))))
          (pss_cons (ps_set (i := 2) sc_number_in.nd rfl (.inl rfl) (pe_op op_add (pe_op op_sub (pe_op op_add (pv 2) (pe_ix ix_list (pe_ix ix_list (pv 0) (pe_callB call_len_seq (by rfl) T.len (by decide +kernel) (pa_cons (pv 1) pa_nil)) (fun _ _ => rfl)) (pv 3) (fun _ _ => rfl))) (pe_ix ix_list (pe_ix ix_list (pv 0) (pe_callB call_len_seq (by rfl) T.len (by decide +kernel) (pa_cons (pv 1) pa_nil)) (fun _ _ => rfl)) (pv 4) (fun _ _ => rfl))) (pe_op op_mulW (pv 6) (pe_ix ix_list (pe_ix ix_list (pv 0) (pv 5) (fun _ _ => rfl)) (pv 4) (fun _ _ => rfl)))))
          (pss_cons (ps_set (i := 1) sc_number_in.nd rfl (.inl rfl) (pe_slice sl_tupA (pv 1) po_none (po_some (pv 5))))
          (pss_one (ps_set (i := 3) sc_number_in.nd rfl (.inl rfl) (pv 4)))))))))
      (pss_one (ps_ret (pv 2)))))), ?_⟩
  refine ⟨fun m σ H' => Ex H H' ∧ ∃ (b' : Addr) (ys : List Int) (acc l np : Nat) (y4 y5 y6 : Option V), SqT K H' b' (ys.map V.int) ∧ ys.length ≤ xs.length ∧ m = ys.length ∧ 1 ≤ l ∧ (l ≤ ys.length ∨ ys = []) ∧ St l ys np ∧ acc + np = num ∧
      σ = [some (.ref c), some (.ref b'), some (.int (acc : Int)), some (.int (l : Int)), y4, y5, y6],
    ⟨_, Evl.Ex.refl H, b, xs, 0, 1, num, _, _, _, hS, Nat.le_refl _, rfl, Nat.le_refl _, ?_, hst, Nat.zero_add _, rfl⟩, ?_⟩
  · cases xs with
    | nil => exact .inr rfl
    | cons x xs => exact .inl (Nat.succ_pos _)
  rintro m σ H1 ⟨X1, b', ys, acc, l, np, y4, y5, y6, hy, hyl, rfl, hl1, hl2, hs, hacc, rfl⟩
  refine ⟨_, rfl, _, .inr (.inl ⟨_, hy, rfl⟩), ?_⟩
  cases hs with
  | nil =>
    refine iteF ⟨_, rfl, ?_⟩
    rw [Nat.add_zero] at hacc
    rw [hacc]
    exact q H1 X1
  | @cons _ r inner pre ni np' g1 g2 hi hil hp =>
    have hne : (!((pre ++ (inner ++ [(r : Int)])).map V.int).isEmpty) = true := by
      cases e : pre ++ (inner ++ [(r : Int)]) with
      | nil => have := congrArg List.length e; rw [st_len pre inner r hil] at this; have h0 : ([] : List Int).length = 0 := rfl; omega
      | cons x xs => rfl
    rw [hne]
    refine iteT ⟨_, fun _ _ h => h, ?_⟩
    have hlen := st_len pre inner r hil
    obtain ⟨zs, hzs⟩ : ∃ zs, pre ++ (inner ++ [(r : Int)]) = zs := ⟨_, rfl⟩
    rw [hzs] at hy hyl hl2 hlen ⊢
    rw [hlen] at hyl
    have hlast : atI (zs.map V.int) (-1) = some (.int (r : Int)) := by
      rw [← hzs, ← List.append_assoc, List.map_append]
      rw [atI_last (vs := (pre ++ inner).map V.int ++ [(r : Int)].map V.int) (n := (pre ++ inner).length) (by rw [List.length_append, List.length_map]; rfl)]
      rw [List.getElem?_append_right (by rw [List.length_map]; exact Nat.le_refl _), List.length_map, Nat.sub_self]; rfl
    refine ⟨_, rfl, _, rfl, b', _, _, _, rfl, rfl, hy, hlast, ?_⟩
    have hr1 : 1 ≤ r := by omega
    obtain ⟨d, rfl⟩ : ∃ d, n = d + 1 := ⟨n - 1, by omega⟩
    have hlen2 : ((zs.map V.int).length : Int) - (r : Int) = (pre.length : Int) := by rw [List.length_map, hlen]; omega
    refine ⟨_, rfl, b', _, rfl, .inr hy, _, rfl, _, _, rfl, rfl, ?_⟩
    rw [show (fun i j : Int => V.int (i - j)) ((zs.map V.int).length : Int) (r : Int) = V.int (pre.length : Int) from congrArg V.int hlen2]
    have ci : cutV (zs.map V.int) (some (pre.length : Int)) (some (-1)) = inner.map V.int := by
      have h1 : HT.sIx (zs.map V.int).length 0 (some (pre.length : Int)) = pre.length := by
        rw [HT.sIx_nat, List.length_map]; omega
      have h2 : HT.sIx (zs.map V.int).length (zs.map V.int).length (some (-1)) = pre.length + inner.length := by
        rw [List.length_map, hlen]; unfold HT.sIx; simp; omega
      unfold cutV
      rw [h1, h2, Nat.add_sub_cancel_left, ← hzs, ← List.map_drop, ← List.map_take, List.drop_left', List.take_left'] <;> rfl
    have cp : cutV (zs.map V.int) none (some (pre.length : Int)) = pre.map V.int := by
      rw [cut_take, ← List.map_take, ← hzs, List.take_left']; rfl
    refine ⟨_, rfl, _, rfl, _, rfl, _, rfl, _, rfl, _, rfl, slA_any hy fun a1 H2 X2 h2 => ?_⟩
    rw [ci] at h2
    have hyA := Evl.ex_t X2 hy
    replace X2 := X1.trans X2
    have L2 := L0.ex X2
    refine ⟨c, a1, N, inner, ni, rfl, L2, hN, h2, by omega, by omega, hi, fun H3 X3 => ?_⟩
    have hy3 := Evl.ex_t X3 hyA
    replace X3 := X2.trans X3
    have L3 := L0.ex X3
    obtain ⟨vs1, a11, u1, hv1, hat1, hH1, hu1⟩ := srow_bal L3 (e := zs.length) (l := l) (by omega) (by omega)
    obtain ⟨vs2, a22, u2, hv2, hat2, hH2, hu2⟩ := srow_bal L3 (e := zs.length) (l := r) (by omega) (by omega)
    obtain ⟨vs3, a33, u3, hv3, hat3, hH3, hu3⟩ := srow_bal L3 (e := pre.length) (l := r) (by omega) (by omega)
    have hat1' : atI vs1 (((zs.map V.int).length : Nat) : Int) = some (.ref a11) := by rw [List.length_map]; exact hat1
    have hat2' : atI vs2 (((zs.map V.int).length : Nat) : Int) = some (.ref a22) := by rw [List.length_map]; exact hat2
    have hni := hi.pos (Nat.le_refl 1) (by omega)
    refine ⟨_, rfl, _, rfl, _, rfl, b', _, rfl, .inr hy3, c, vs1, _, _, rfl, rfl, SqL.of hv1, hat1', _, rfl, a11, u1, _, _, rfl, rfl, SqL.of hH1, hu1, _, _, rfl, rfl, ?_⟩
    refine ⟨_, rfl, _, rfl, b', _, rfl, .inr hy3, c, vs2, _, _, rfl, rfl, SqL.of hv2, hat2', _, rfl, a22, u2, _, _, rfl, rfl, SqL.of hH2, hu2, _, _, rfl, rfl, ?_⟩
    refine ⟨_, rfl, _, rfl, _, rfl, c, vs3, _, _, rfl, rfl, SqL.of hv3, hat3, _, rfl, a33, u3, _, _, rfl, rfl, SqL.of hH3, hu3, _, _, rfl, rfl, wide_mul (a := 201) (b := 201) (nat_abs_le (B := 0) (Nat.le_trans (Nat.le_of_lt hni) (Sg_le _ _))) (nat_abs_le (B := 0) (Sg_le _ _)) (by decide) (by decide) (by decide), _, _, rfl, rfl, ?_⟩
    refine ⟨_, rfl, ?_⟩
    dsimp only [tNoPart]
    refine ⟨_, rfl, _, rfl, slA_any hy3 fun a2 H4 X4 h4 => ?_⟩
    rw [cp] at h4
    have hz : zs.length ≤ 100 := by omega
    have hm := Sg_mono (e := pre.length + r) g1 g2 (by omega)
    refine ⟨_, rfl, pre.length, by omega, X3.trans X4, a2, pre, acc + (Sg (pre.length + r) l - Sg (pre.length + r) r + ni * Sg pre.length r), r, np', some (.int (r : Int)), some (.int (pre.length : Int)), some (.int (ni : Int)), h4, by omega, rfl, by omega, st_le hp, hp, by omega, ?_⟩
    have e1 : (acc : Int) + ((Sg zs.length l : Nat) : Int) - ((Sg zs.length r : Nat) : Int) + (ni : Int) * ((Sg pre.length r : Nat) : Int) = ((acc + (Sg (pre.length + r) l - Sg (pre.length + r) r + ni * Sg pre.length r) : Nat) : Int) := by
      rw [hlen]
      have e2 : (ni : Int) * ((Sg pre.length r : Nat) : Int) = ((ni * Sg pre.length r : Nat) : Int) := by push_cast; rfl
      rw [e2]
      omega
    exact congrArg (fun z => [some (V.ref c), some (V.ref a2), some (V.int z), some (V.int (r : Int)), some (V.int (r : Int)), some (V.int (pre.length : Int)), some (V.int (ni : Int))]) e1
theorem num_base {f : Addr} {fd : FuncData} (D : DefAt K mg "number_in" s_number_in ["counts", "row"] f fd) : C8.Cal P w K mg base (0 + 1) "number_in" (numS 0 K) [] := by
  refine D.cal sc_number_in (fun vs H Q E h => ?len) fun cdv A outer s H vs Q E hr h => ?body
  case len => exact h.elim
  exact h.elim
theorem num_all {f : Addr} {fd : FuncData} (D : DefAt K mg "number_in" s_number_in ["counts", "row"] f fd) (T : Top mg) : ∀ n, C8.Cal P w K mg base (n + 1) "number_in" (numS n K) []
  | 0 => num_base D
  | n + 1 => num_step D T n (num_all D T n)
def sp_number_in (K : PySem.W.Frag) : Sp := numS 101 K
theorem ok_number_in {f : Addr} {fd : FuncData} (D : DefAt K mg "number_in" s_number_in ["counts", "row"] f fd) (T : Top mg) : C8.Cal P w K mg base 102 "number_in" (sp_number_in K) [] := num_all D T 101
def sp_still_number (K : PySem.W.Frag) : Sp := fun vs H Q _ => ∃ a, ∃ xs : List Int, vs = [.ref a] ∧ SqT K H a (xs.map V.int) ∧ Rw xs ∧ spans xs = xs ∧ ∀ (r : Nat) H', St 1 xs r → Ex H H' → Q (.int (r : Int)) H'
theorem ok_still_number {f : Addr} {fd : FuncData} (D : DefAt K mg "still_number" s_still_number ["row"] f fd) (T : Top mg) (c_number_in : C8.Cal P w K mg base 102 "number_in" (sp_number_in K) []) (c_is_still : C8.Cal P w K mg base 6 "is_still" (sp_is_still K) []) (c_still_counts : C8.Cal P w K mg base 1 "still_counts" (sp_still_counts K) []) :
    C8.Cal P w K mg base 103 "still_number" (sp_still_number K) [] := by
  refine D.cal sc_still_number (fun vs H Q E h => ?len) fun cdv A outer s H vs Q E hr h => ?body
  case len => obtain ⟨a, xs, rfl, _⟩ := h; rfl
  obtain ⟨a, xs, rfl, hS, R, hs, q⟩ := h
  refine ⟨_, (pss_cons (ps_if (pt_not (pt_val (C8.pe_c c_is_still hr (by decide) (by rfl) (pa_cons (pv 0) pa_nil))))
        (pss_one ps_never)
        pss_nil)
      (pss_one (ps_ret (C8.pe_c c_number_in hr (by decide) (by rfl) (pa_cons (C8.pe_c c_still_counts hr (by decide) (by rfl) (pa_cons (pe_callB call_len_seq (by rfl) T.len (by decide +kernel) (pa_cons (pv 0) pa_nil)) pa_nil)) (pa_cons (pv 0) pa_nil)))))), ?_⟩
  have h0 := R.lo
  have h1 := R.hi
  have L : Lam xs := by rw [← hs]; exact spans_lam xs
  obtain ⟨r, hr⟩ := st_ex xs.length xs 1 (Nat.le_refl _) (Nat.le_refl 1) hs fun k hk => L.lo k (by omega)
  refine ⟨_, rfl, a, xs, rfl, hS, R, fun H1 X1 => ?_⟩
  refine ⟨_, rfl, ?_⟩
  rw [decide_eq_true hs]
  refine iteF ?_
  have hS1 := Evl.ex_t X1 hS
  refine ⟨_, rfl, a, _, rfl, .inr hS1, xs.length, by rw [List.length_map]; rfl, by omega, fun p H2 _ X2 L2 => ?_⟩
  refine ⟨_, rfl, p, a, xs.length, xs, r, rfl, L2, by omega, Evl.ex_t X2 hS1, Nat.le_refl _, by omega, hr, fun H3 X3 => ?_⟩
  exact q r H3 hr (X1.trans (X2.trans X3))
theorem cdivp {i j : Int} (h : 0 < j) (hb : j.natAbs < 2 ^ 1000) : CDivP i j := by
  refine ⟨h, ?_⟩
  unfold Builtin.divisionGoesByPylong
  have h1 := PySem.Flt.log2_lt_of (n := j.natAbs) (k := 1000) (by decide) hb
  have h2 : (j == 0) = false := beq_eq_false_iff_ne.mpr (by omega)
  simp only [h2]
  have h3 : decide (j.natAbs.log2 / 30 + 1 > 300) = false := decide_eq_false (by omega)
  simp [h3]
def entS : Nat → PySem.W.Frag → Sp
  | 0, _ => fun _ _ _ _ => False
  | d + 1, K => fun vs H Q _ => ∃ c, ∃ N n num : Nat, vs = [.ref c, .int (n : Int), .int (num : Int)] ∧ LLN H c ((List.range (N + 1)).map (srow N)) ∧ N ≤ 100 ∧ n ≤ N ∧ n ≤ d ∧ num < Sg n 1 ∧
      ∀ p H' xs, H p = none → Ex H H' → H' p = some (.lst (xs.map V.int)) → St 1 xs num → xs.length = n → Q (.ref p) H'
theorem ent_step {f : Addr} {fd : FuncData} (D : DefAt K mg "still_entries" s_still_entries ["counts", "size", "number"] f fd) (T : Top mg) (n : Nat) (c_still_entries : C8.Cal P w K mg base (n + 1) "still_entries" (entS n K) []) :
    C8.Cal P w K mg base (n + 1 + 1) "still_entries" (entS (n + 1) K) [] := by
  refine D.cal sc_still_entries (fun vs H Q E h => ?len) fun cdv A outer s H vs Q E hr h => ?body
  case len => obtain ⟨c, N, z, num, rfl, _⟩ := h; rfl
  obtain ⟨c, N, z, num, rfl, L0, hN, hz, hd, hnum, q⟩ := h
  refine ⟨_, (pss_cons (ps_set (i := 3) sc_still_entries.nd rfl (.inl rfl) (pe_lst pa_nil))
      (pss_cons (ps_set (i := 4) sc_still_entries.nd rfl (.inl rfl) pe_int)
      (pss_cons (ps_while PassesOwn.never (pt_cmpR op_lt (pe_callB call_len_seq (by rfl) T.len (by decide +kernel) (pa_cons (pv 3) pa_nil)) (pv 1) (nomark _))
        (pss_cons (ps_set (i := 5) sc_still_entries.nd rfl (.inl rfl) (pe_op op_sub (pv 1) (pe_callB call_len_seq (by rfl) T.len (by decide +kernel) (pa_cons (pv 3) pa_nil))))
          (pss_cons (ps_while PassesOwn.never (pt_cmpR op_ge (pv 2) (pe_op op_sub (pe_ix ix_list (pe_ix ix_list (pv 0) (pv 5) (fun _ _ => rfl)) (pv 4) (fun _ _ => rfl)) (pe_ix ix_list (pe_ix ix_list (pv 0) (pv 5) (fun _ _ => rfl)) (pe_op op_add (pv 4) pe_int) (fun _ _ => rfl))) (nomark _))
            (pss_cons (ps_set (i := 2) sc_still_entries.nd rfl (.inl rfl) (pe_op op_add (pe_op op_sub (pv 2) (pe_ix ix_list (pe_ix ix_list (pv 0) (pv 5) (fun _ _ => rfl)) (pv 4) (fun _ _ => rfl))) (pe_ix ix_list (pe_ix ix_list (pv 0) (pv 5) (fun _ _ => rfl)) (pe_op op_add (pv 4) pe_int) (fun _ _ => rfl))))
              (pss_one (ps_set (i := 4) sc_still_entries.nd rfl (.inl rfl) (pe_op op_add (pv 4) pe_int)))))
          (pss_cons (ps_asg (pe_callB call_divmodW (by rfl) T.divmod (by decide +kernel) (pa_cons (pv 2) (pa_cons (pe_ix ix_list (pe_ix ix_list (pv 0) (pe_op op_sub (pv 5) (pv 4)) (fun _ _ => rfl)) (pv 4) (fun _ _ => rfl)) pa_nil))) (pg_tup rfl (pgs_cons (pg_name (i := 6) sc_still_entries.nd rfl (.inl rfl)) (pgs_cons (pg_name (i := 2) sc_still_entries.nd rfl (.inl rfl)) pgs_nil))))
          (pss_one (ps_set (i := 3) sc_still_entries.nd rfl (.inl rfl) (pe_op op_cat (pe_op op_cat (C8.pe_c c_still_entries hr (Nat.le_refl _) (by rfl) (pa_cons (pv 0) (pa_cons (pe_op op_sub (pv 4) pe_int) (pa_cons (pv 6) pa_nil)))) (pe_lst (pa_cons (pv 4) pa_nil))) (pv 3))))))))
      (pss_one (ps_ret (pv 3)))))), ?_⟩
  refine ⟨Nat.zero_le _, fun r0 hr0 => ?_⟩
  refine ⟨fun m σ H' => Ex H H' ∧ ∃ (rl : Addr) (ws : List Int) (l m' : Nat) (y5 y6 : Option V), H rl = none ∧ H' rl = some (.lst (ws.map V.int)) ∧ ws.length ≤ z ∧ m = z - ws.length ∧ 1 ≤ l ∧ m' < Sg (z - ws.length) l ∧
      (∀ ys, ys.length = z - ws.length → St l ys m' → St 1 (ys ++ ws) num) ∧ σ = [some (.ref c), some (.int (z : Int)), some (.int (m' : Int)), some (.ref rl), some (.int (l : Int)), y5, y6],
    ⟨_, Evl.Ex.new hr0, r0, [], 1, num, _, _, hr0, upd_same, Nat.zero_le _, rfl, Nat.le_refl _, hnum, fun ys _ h => by rw [List.append_nil]; exact h, rfl⟩, ?_⟩
  rintro m σ H1 ⟨X1, rl, ws, l, m', y5, y6, hrl0, hrl, hw, rfl, hl, hm, hys, rfl⟩
  refine ⟨_, rfl, rl, _, rfl, .inl (SqL.of hrl), _, rfl, _, _, rfl, rfl, _, rfl, ite2 (fun t => ?_) fun t => ?_⟩
  · have t := of_decide_eq_true t
    rw [List.length_map] at t
    refine ⟨_, fun _ _ h => h, ?_⟩
    obtain ⟨e, he⟩ : ∃ e, z - ws.length = e := ⟨_, rfl⟩
    have e1 : 1 ≤ e := by omega
    rw [he] at hm hys ⊢
    refine ⟨_, rfl, _, rfl, rl, _, rfl, .inl (SqL.of hrl), _, _, rfl, rfl, ?_⟩
    rw [show (fun i j : Int => V.int (i - j)) (z : Int) ((ws.map V.int).length : Int) = V.int (e : Int) from congrArg V.int (by rw [List.length_map]; omega)]
    have hle : ∀ {l' m'' : Nat}, m'' < Sg e l' → l' ≤ e := fun {l' m''} h => by
      rcases Nat.lt_or_ge e l' with g | g
      · rw [Sg_big e1 g] at h; omega
      · exact g
    refine ⟨fun k σ H' => Ex H H' ∧ ∃ l' m'' : Nat, H' rl = some (.lst (ws.map V.int)) ∧ 1 ≤ l' ∧ k = e - l' ∧ m'' < Sg e l' ∧ (∀ ys, ys.length = e → St l' ys m'' → St 1 (ys ++ ws) num) ∧
        σ = [some (.ref c), some (.int (z : Int)), some (.int (m'' : Int)), some (.ref rl), some (.int (l' : Int)), some (.int (e : Int)), y6],
      ⟨_, X1, l, m', hrl, hl, rfl, hm, hys, rfl⟩, ?_⟩
    rintro k σ H2 ⟨X2, l', m'', hrl2, hl', rfl, hm', hys', rfl⟩
    have l2 := hle hm'
    have L2 := L0.ex X2
    obtain ⟨vs1, a11, u1, hv1, hat1, hH1, hu1⟩ := srow_bal L2 (e := e) (l := l') (by omega) (by omega)
    obtain ⟨vs2, a22, u2, hv2, hat2, hH2, hu2⟩ := srow_bal L2 (e := e) (l := l' + 1) (by omega) (by omega)
    have hmn := Sg_mono (e := e) hl' (show l' ≤ l' + 1 by omega) (by omega)
    refine ⟨_, rfl, _, rfl, _, rfl, c, vs1, _, _, rfl, rfl, SqL.of hv1, hat1, _, rfl, a11, u1, _, _, rfl, rfl, SqL.of hH1, hu1, _, rfl, _, rfl, c, vs2, _, _, rfl, rfl, SqL.of hv2, hat2, _, rfl, _, _, rfl, rfl, a22, u2, _, _, rfl, rfl, SqL.of hH2, hu2, _, _, rfl, rfl, _, _, rfl, rfl, _, rfl, ite2 (fun t2 => ?_) fun t2 => ?_⟩
    · have t2 : ((Sg e l' : Nat) : Int) - ((Sg e (l' + 1) : Nat) : Int) ≤ (m'' : Int) := of_decide_eq_true t2
      refine ⟨_, fun _ _ h => h, ?_⟩
      refine ⟨_, rfl, _, rfl, _, rfl, c, vs1, _, _, rfl, rfl, SqL.of hv1, hat1, _, rfl, a11, u1, _, _, rfl, rfl, SqL.of hH1, hu1, _, _, rfl, rfl, _, rfl, _, rfl, c, vs2, _, _, rfl, rfl, SqL.of hv2, hat2, _, rfl, _, _, rfl, rfl, a22, u2, _, _, rfl, rfl, SqL.of hH2, hu2, _, _, rfl, rfl, ?_⟩
      refine ⟨_, rfl, _, _, rfl, rfl, ?_⟩
      have e3 : (m'' : Int) - ((Sg e l' : Nat) : Int) + ((Sg e (l' + 1) : Nat) : Int) = ((m'' - (Sg e l' - Sg e (l' + 1)) : Nat) : Int) := by omega
      have hm3 : m'' - (Sg e l' - Sg e (l' + 1)) < Sg e (l' + 1) := by omega
      have l3 := hle hm3
      refine ⟨e - (l' + 1), by omega, X2, l' + 1, m'' - (Sg e l' - Sg e (l' + 1)), hrl2, by omega, rfl, hm3, fun ys hy hs => hys' ys hy ?_, ?_⟩
      · have := hs.lift hl' (fun z => by rw [z] at hy; have h0 : ([] : List Int).length = 0 := rfl; omega) (by omega)
        rw [hy, show Sg e l' - Sg e (l' + 1) + (m'' - (Sg e l' - Sg e (l' + 1))) = m'' by omega] at this
        exact this
      · exact congrArg (fun q => [some (V.ref c), some (V.int (z : Int)), some (V.int q), some (V.ref rl), some (V.int ((l' : Int) + 1)), some (V.int (e : Int)), y6]) e3
    · have t2 : ¬ ((Sg e l' : Nat) : Int) - ((Sg e (l' + 1) : Nat) : Int) ≤ (m'' : Int) := fun h => t2 (decide_eq_true h)
      have hrec := Sg_rec (e := e) (l := l') hl' l2 (by omega)
      have hlt : m'' < Sg (l' - 1) 1 * Sg (e - l') l' := by omega
      obtain ⟨j, hj⟩ : ∃ j, Sg (e - l') l' = j := ⟨_, rfl⟩
      obtain ⟨vs3, a33, u3, hv3, hat3, hH3, hu3⟩ := srow_bal L2 (e := e - l') (l := l') (by omega) (by omega)
      rw [hj] at hlt hu3
      have j1 : 1 ≤ j := by rcases Nat.eq_zero_or_pos j with h | h; (rw [h, Nat.mul_zero] at hlt; omega); exact h
      have j2 : j ≤ 2 ^ 200 := by rw [← hj]; exact Sg_le _ _
      have hq : m'' / j < Sg (l' - 1) 1 := Nat.div_lt_of_lt_mul (by rw [Nat.mul_comm]; exact hlt)
      have hp2 : m'' % j < j := Nat.mod_lt _ j1
      have hat3' : atI vs3 ((e : Int) - (l' : Int)) = some (.ref a33) := by rw [show (e : Int) - (l' : Int) = ((e - l' : Nat) : Int) by omega]; exact hat3
      refine ⟨_, rfl, _, rfl, _, rfl, _, rfl, _, _, rfl, rfl, c, vs3, _, _, rfl, rfl, SqL.of hv3, hat3', _, rfl, a33, u3, _, _, rfl, rfl, SqL.of hH3, hu3, _, _, rfl, cdivp (by omega) (by rw [Int.natAbs_natCast]; exact Nat.lt_of_le_of_lt j2 (by decide +kernel)), fun tp htp => ?_⟩
      have Y1 := Evl.Ex.new (o := .tup [.int ((m'' : Int) / (j : Int)), .int ((m'' : Int) % (j : Int))]) htp
      refine ⟨tp, _, rfl, SqT.of upd_same, rfl, _, _, rfl, _, _, rfl, rfl, ?_⟩
      have X3 := X2.trans Y1
      have hrl3 := Y1 _ _ hrl2
      generalize upd H2 tp (.tup [.int ((m'' : Int) / (j : Int)), .int ((m'' : Int) % (j : Int))]) = H3 at X3 hrl3 ⊢
      obtain ⟨d, rfl⟩ : ∃ d, n = d + 1 := ⟨n - 1, by omega⟩
      refine ⟨_, rfl, _, rfl, _, _, rfl, rfl, _, rfl, ?_⟩
      refine ⟨c, N, l' - 1, m'' / j, ?_, L0.ex X3, hN, by omega, by omega, hq, fun p H4 xs hp0 X4 hpx hst hxl => ?_⟩
      · show [V.ref c, V.int ((l' : Int) - 1), V.int ((m'' : Int) / (j : Int))] = _
        rw [show (l' : Int) - 1 = ((l' - 1 : Nat) : Int) by omega]; rfl
      refine ⟨_, rfl, by show 1 ≤ sizeLine; decide, fun s2 hs2 => ?_⟩
      have Y2 := Evl.Ex.new (o := .lst [.int (l' : Int)]) hs2
      refine ⟨p, s2, _, _, rfl, rfl, Y2 _ _ hpx, upd_same, ?_, fun s3 hs3 => ?_⟩
      · rw [List.length_map]; exact Nat.le_of_lt (small1000 (by show _ + 1 ≤ 1000; omega))
      have Y3 := Evl.Ex.new (o := .lst (xs.map V.int ++ [.int (l' : Int)])) hs3
      refine ⟨_, rfl, s3, rl, _, _, rfl, rfl, upd_same, Y3 _ _ (Y2 _ _ (X4 _ _ hrl3)), ?_, fun s4 hs4 => ?_⟩
      · rw [List.length_append, List.length_map, List.length_map]; exact Nat.le_of_lt (small1000 (by show _ + 1 + _ ≤ 1000; omega))
      have Y4 := Evl.Ex.new (o := .lst (xs.map V.int ++ [.int (l' : Int)] ++ ws.map V.int)) hs4
      have X14 := X3.trans (X4.trans (Y2.trans (Y3.trans Y4)))
      have hwl : ((xs ++ [(l' : Int)]) ++ ws).length = l' + ws.length := by
        rw [List.length_append, List.length_append, hxl]; show l' - 1 + 1 + _ = _; omega
      refine ⟨_, ?_, X14, s4, (xs ++ [(l' : Int)]) ++ ws, l', m'' % j, _, _, Evl.fresh_back (X3.trans (X4.trans (Y2.trans Y3))) hs4, ?_, by rw [hwl]; omega, rfl, hl', ?_, fun ys hy hs => ?_, rfl⟩
      · rw [hwl]; omega
      · rw [upd_same, List.map_append, List.map_append]; rfl
      · rw [hwl, show z - (l' + ws.length) = e - l' by omega, hj]; exact hp2
      · rw [hwl, show z - (l' + ws.length) = e - l' by omega] at hy
        have hs2 := St.cons hl' (Nat.le_refl l') hst (show xs.length + 1 = l' by omega) hs
        rw [hy, show e - l' + l' = e by omega, Nat.sub_self, Nat.zero_add, hj, Nat.mul_comm, Nat.div_add_mod] at hs2
        have := hys' (ys ++ (xs ++ [(l' : Int)])) (by rw [st_len ys xs l' (by omega)]; omega) hs2
        rw [List.append_assoc] at this
        exact this
  · have t : ¬ ((ws.map V.int).length : Int) < (z : Int) := fun h => t (decide_eq_true h)
    rw [List.length_map] at t
    have hzw : z - ws.length = 0 := by omega
    rw [hzw] at hm hys
    have hm0 : m' = 0 := Nat.lt_one_iff.mp hm
    subst hm0
    have := hys [] rfl .nil
    exact ⟨_, rfl, q rl H1 ws hrl0 X1 hrl this (by omega)⟩
theorem ent_base {f : Addr} {fd : FuncData} (D : DefAt K mg "still_entries" s_still_entries ["counts", "size", "number"] f fd) : C8.Cal P w K mg base (0 + 1) "still_entries" (entS 0 K) [] := by
  refine D.cal sc_still_entries (fun vs H Q E h => ?len) fun cdv A outer s H vs Q E hr h => ?body
  case len => exact h.elim
  exact h.elim
theorem ent_all {f : Addr} {fd : FuncData} (D : DefAt K mg "still_entries" s_still_entries ["counts", "size", "number"] f fd) (T : Top mg) : ∀ n, C8.Cal P w K mg base (n + 1) "still_entries" (entS n K) []
  | 0 => ent_base D
  | n + 1 => ent_step D T n (ent_all D T n)
def sp_still_entries (K : PySem.W.Frag) : Sp := entS 101 K
theorem ok_still_entries {f : Addr} {fd : FuncData} (D : DefAt K mg "still_entries" s_still_entries ["counts", "size", "number"] f fd) (T : Top mg) : C8.Cal P w K mg base 102 "still_entries" (sp_still_entries K) [] := ent_all D T 101
def sp_nth_still (K : PySem.W.Frag) : Sp := fun vs H Q _ => ∃ n N : Nat, vs = [.int (n : Int), .int (N : Int)] ∧ 1 ≤ n ∧ n ≤ 100 ∧ N < Sg n 1 ∧
  ∀ b H' xs, H b = none → Ex H H' → H' b = some (.tup (xs.map V.int)) → St 1 xs N → xs.length = n → Q (.ref b) H'
theorem ok_nth_still {f : Addr} {fd : FuncData} (D : DefAt K mg "nth_still" s_nth_still ["size", "number"] f fd) (T : Top mg) (c_check_size : C8.Cal P w K mg base 3 "check_size" (sp_check_size K) []) (c_still_counts : C8.Cal P w K mg base 1 "still_counts" (sp_still_counts K) []) (c_check_number : C8.Cal P w K mg base 3 "check_number" (sp_check_number K) []) (c_still_entries : C8.Cal P w K mg base 102 "still_entries" (sp_still_entries K) []) :
    C8.Cal P w K mg base 103 "nth_still" (sp_nth_still K) [] := by
  refine D.cal sc_nth_still (fun vs H Q E h => ?len) fun cdv A outer s H vs Q E hr h => ?body
  case len => obtain ⟨a, xs, rfl, _⟩ := h; rfl
  obtain ⟨n, N, rfl, n1, n2, hN, q⟩ := h
  refine ⟨_, (pss_cons (ps_expr (C8.pe_c c_check_size hr (by decide) (by rfl) (pa_cons (pv 0) pa_nil)))
      (pss_cons (ps_set (i := 2) sc_nth_still.nd rfl (.inl rfl) (C8.pe_c c_still_counts hr (by decide) (by rfl) (pa_cons (pv 0) pa_nil)))
      (pss_cons (ps_expr (C8.pe_c c_check_number hr (by decide) (by rfl) (pa_cons (pv 1) (pa_cons (pe_ix ix_list (pe_ix ix_list (pv 2) (pv 0) (fun _ _ => rfl)) pe_int (fun _ _ => rfl)) pa_nil))))
      (pss_one (ps_ret (pe_callTy call_tuple_of (by rfl) T.tuple (by decide +kernel) (pa_cons (C8.pe_c c_still_entries hr (by decide) (by rfl) (pa_cons (pv 2) (pa_cons (pv 0) (pa_cons (pv 1) pa_nil)))) pa_nil))))))), ?_⟩
  refine ⟨_, rfl, _, rfl, by omega, by omega, ?_⟩
  refine ⟨_, rfl, n, rfl, n2, fun p H2 _ X2 L2 => ?_⟩
  obtain ⟨vs1, a11, u1, hv1, hat1, hH1, hu1⟩ := srow_bal L2 (e := n) (l := 1) (by omega) (by omega)
  refine ⟨_, rfl, _, rfl, _, rfl, p, vs1, _, _, rfl, rfl, SqL.of hv1, hat1, a11, u1, _, _, rfl, rfl, SqL.of hH1, hu1, _, _, rfl, by omega, by omega, ?_⟩
  refine ⟨_, rfl, _, rfl, _, rfl, p, n, n, N, rfl, L2, n2, Nat.le_refl _, by omega, hN, fun r H3 xs hr0 X3 hrx hst hxl => ?_⟩
  refine ⟨r, _, rfl, .inl ⟨SqL.of hrx, fun b hb => ?_⟩⟩
  have X := X2.trans X3
  exact q b _ xs (Evl.fresh_back X hb) (X.trans (Evl.Ex.new hb)) upd_same hst hxl
end
end K21

set_option Elab.async false
set_option linter.all false
set_option maxRecDepth 100000
set_option maxHeartbeats 1000000
namespace K21
open PySem PySem.Spec
open PyProof.Rows L2 Sx
section
variable {P : Program} {w : World} {K : PySem.W.Frag} {mg : Str → Option Value} {base : Heap}
def sp__law_spans (K : PySem.W.Frag) : Sp := fun vs H Q _ => ∃ a, ∃ xs : List Int, vs = [.ref a] ∧ SqT K H a (xs.map V.int) ∧ xs.length ≤ 200 ∧
  ∀ p H', H p = none → Ex H H' → H' p = some (.tup ((spans xs).map V.int)) → Q (.ref p) H'
theorem ok__law_spans {f : Addr} {fd : FuncData} (D : DefAt K mg "_law_spans" s__law_spans ["row"] f fd) (T : Top mg)  :
    C8.Cal P w K mg base 1 "_law_spans" (sp__law_spans K) [] := by
  refine D.cal sc__law_spans (fun vs H Q E h => ?len) fun cdv A outer s H vs Q E hr h => ?body
  case len => obtain ⟨a, xs, rfl, _⟩ := h; rfl
  obtain ⟨a, xs, rfl, hS, hz, q⟩ := h
  refine ⟨_, (pss_cons (ps_set (i := 1) sc__law_spans.nd rfl (.inl rfl) (pe_lst pa_nil))
      (pss_cons (ps_for PassesOwn.never rfl (pi_enumT (by rfl) T.enumerate (pa_cons (pv 0) pa_nil)) (pg_tup rfl (pgs_cons (pg_name (i := 2) sc__law_spans.nd rfl (.inl rfl)) (pgs_cons (pg_name (i := 3) sc__law_spans.nd rfl (.inl rfl)) pgs_nil)))
        (pss_cons (ps_set (i := 4) sc__law_spans.nd rfl (.inl rfl) (pv 2))
          (pss_cons (ps_while PassesOwn.never (PW.pt (pw_and (pt_cmpR op_gt (pv 4) pe_int (nomark _)) (pw_and1 (pt_cmpR op_lt (pe_ix ix_tup (pv 0) (pe_op op_sub (pv 4) pe_int) (fun _ _ => rfl)) (pv 3) (nomark _)))))
            (pss_one (ps_set (i := 4) sc__law_spans.nd rfl (.inl rfl) (pe_op op_sub (pv 4) pe_int))))
          (pss_one (ps_expr (pe_bm PySem.F.plainAttrs_list PySem.F.slot_list_append PySem.F.type_list_append mt_append (pv 1) (pa_cons (pe_op op_add (pe_op op_sub (pv 2) (pv 4)) pe_int) pa_nil)))))))
      (pss_one (ps_ret (pe_callTy call_tuple_of (by rfl) T.tuple (by decide +kernel) (pa_cons (pv 1) pa_nil)))))), ?_⟩
  refine ⟨Nat.zero_le _, fun fl hfl => ?_⟩
  have X0 := Evl.Ex.new (o := .lst []) hfl
  refine ⟨_, rfl, a, _, rfl, Evl.ex_t X0 hS, ?_⟩
  refine for_enumT (K := K) (a := a) (xs := xs.map V.int) (fun i σ H' => Ex H H' ∧ H' fl = some (.lst (((spans xs).take i).map V.int)) ∧ ∃ y2 y3 y4 : Option V, σ = [some (.ref a), some (.ref fl), y2, y3, y4])
    ⟨X0, upd_same, _, _, _, rfl⟩ (fun i σ H' h => Evl.ex_t h.1 hS) ?_ ?_
  · rintro i x T' σ H1 hx ⟨X1, hfl1, y2, y3, y4, rfl⟩ hT
    have hi : i < xs.length := by
      have := (List.getElem?_eq_some_iff.mp hx).1
      rwa [List.length_map] at this
    have ex : x = .int (g xs i) := by
      rw [List.getElem?_map, g_get hi] at hx
      exact (Option.some.inj hx).symm
    subst ex
    have X2 := Evl.Ex.new (o := .tup [.int (i : Nat), .int (g xs i)]) hT
    have hS2 := Evl.ex_t (X1.trans X2) hS
    have hfl2 := X2 _ _ hfl1
    refine ⟨T', _, rfl, SqT.of upd_same, rfl, _, _, rfl, _, _, rfl, rfl, ?_⟩
    refine ⟨_, rfl, ?_⟩
    generalize upd H1 T' (.tup [.int (i : Nat), .int (g xs i)]) = H2 at X2 hS2 hfl2 ⊢
    refine ⟨fun m σ H' => H' = H2 ∧ ∃ f : Nat, σ = [some (.ref a), some (.ref fl), some (.int i), some (.int (g xs i)), some (.int f)] ∧ f ≤ i ∧ bk xs (g xs i) f = bk xs (g xs i) i ∧ m = f, ⟨i, rfl, i, rfl, Nat.le_refl _, rfl, rfl⟩, ?_⟩
    rintro m σ H' ⟨rfl, f, rfl, hf, hb, rfl⟩
    have done : bk xs (g xs i) m = m → tDrop (tBM K "list" rAppend (tVar 1) (tCons (tOp (rI0 fun i j => .int (i + j)) (tOp (rI0 fun i j => .int (i - j)) (tVar 2) (tVar 4)) (tC (.int 1))) tNil))
        { nx := fun σ H' => Ex H H' ∧ H' fl = some (.lst (((spans xs).take (i + 1)).map V.int)) ∧ ∃ y2 y3 y4 : Option V, σ = [some (.ref a), some (.ref fl), y2, y3, y4], rt := fun v H => True } [some (.ref a), some (.ref fl), some (.int i), some (.int (g xs i)), some (.int m)] H' := fun hm => by
      refine ⟨_, rfl, .inl ⟨rfl, _, SqL.of hfl2⟩, _, rfl, _, rfl, _, _, rfl, rfl, _, _, rfl, rfl, fl, _, _, rfl, rfl, hfl2, ?_, ?_⟩
      · rw [List.length_map, List.length_take]; exact small1000 (by omega)
      · refine ⟨Evl.Ex.mut (X1.trans X2) hfl, ?_, _, _, _, rfl⟩
        rw [upd_same, List.take_add_one]
        have hg : (spans xs)[i]? = some ((i : Int) - m + 1) := by
          rw [g_get (by rw [spans_len]; exact hi), spans_g hi]
          unfold spn
          rw [← hb, hm]
        rw [hg, List.map_append]
        rfl
    refine ⟨_, rfl, _, _, rfl, rfl, _, rfl, ?_⟩
    refine ite2 (fun t => ?_) fun t => ?_
    · have t := of_decide_eq_true t
      have em : (m : Int) - 1 = ((m - 1 : Nat) : Int) := by omega
      have hat : atI (xs.map V.int) ((m : Int) - 1) = some (.int (g xs (m - 1))) := by rw [em]; exact atN (by omega)
      refine ⟨_, rfl, _, rfl, _, _, rfl, rfl, a, _, _, _, rfl, rfl, hS2, hat, _, rfl, _, _, rfl, rfl, _, rfl, ?_⟩
      refine ite2 (fun t2 => ?_) fun t2 => ?_
      · have t2 := of_decide_eq_true t2
        refine ⟨_, fun _ _ h => h, ?_⟩
        refine ⟨_, rfl, _, _, rfl, rfl, m - 1, by omega, rfl, m - 1, ?_, by omega, ?_, rfl⟩
        · rw [← em]; rfl
        · rw [← hb]
          obtain ⟨k, rfl⟩ : ∃ k, m = k + 1 := ⟨m - 1, by omega⟩
          show bk xs (g xs i) k = if g xs k < g xs i then bk xs (g xs i) k else k + 1
          rw [if_pos (show g xs k < g xs i from t2)]
      · have t2 : ¬ g xs (m - 1) < g xs i := fun h => t2 (decide_eq_true h)
        refine done ?_
        obtain ⟨k, rfl⟩ : ∃ k, m = k + 1 := ⟨m - 1, by omega⟩
        show (if g xs k < g xs i then bk xs (g xs i) k else k + 1) = k + 1
        rw [if_neg (show ¬ g xs k < g xs i from t2)]
    · have t : ¬ (0 : Int) < m := fun h => t (decide_eq_true h)
      have e0 : m = 0 := by omega
      refine iteF (done ?_)
      rw [e0]; rfl
  · rintro σ H1 ⟨X1, hfl1, y2, y3, y4, rfl⟩
    rw [List.length_map, List.take_of_length_le (by rw [spans_len]; exact Nat.le_refl _)] at hfl1
    refine ⟨_, rfl, fl, _, rfl, .inl ⟨SqL.of hfl1, fun r hr' => ?_⟩⟩
    exact q r _ (Evl.fresh_back X1 hr') (X1.trans (Evl.Ex.new hr')) upd_same
theorem flat_len : ∀ {L : List RR}, (∀ p ∈ L, p.2.length ≤ 7) → (L.flatMap growR).length ≤ L.length * 8
  | [], _ => Nat.le_refl _
  | p :: L, h => by
    have h1 := flat_len (L := L) fun q hq => h q (List.mem_cons_of_mem _ hq)
    have h2 := h p (List.mem_cons_self ..)
    rw [List.flatMap_cons, List.length_append, List.length_cons]
    have h3 : (growR p).length = p.2.length + 1 := by unfold growR; rw [List.length_map, List.length_range]
    omega
def sp__law_all (K : PySem.W.Frag) : Sp := fun vs H Q _ => ∃ n : Nat, vs = [.int (n : Int)] ∧ n ≤ 7 ∧
  ∀ p H' us, H p = none → Ex H H' → H' p = some (.lst (refs us)) → TpR H' us → us.map (·.2) = (rowsR n).map (·.1) → Q (.ref p) H'
theorem ok__law_all {f : Addr} {fd : FuncData} (D : DefAt K mg "_law_all" s__law_all ["size_here"] f fd) (T : Top mg)  :
    C8.Cal P w K mg base 1 "_law_all" (sp__law_all K) [] := by
  refine D.cal sc__law_all (fun vs H Q E h => ?len) fun cdv A outer s H vs Q E hr h => ?body
  case len => obtain ⟨n, rfl, _⟩ := h; rfl
  obtain ⟨n, rfl, hn, q⟩ := h
  refine ⟨_, (pss_cons (ps_set (i := 1) sc__law_all.nd rfl (.inl rfl) (pe_lst (pa_cons (pe_tup (pa_cons (pe_tup pa_nil) (pa_cons (pe_tup pa_nil) pa_nil))) pa_nil)))
      (pss_cons (ps_for PassesOwn.never rfl (pi_range1 (by rfl) T.range (pa_cons (pv 0) pa_nil)) (pg_name (i := 2) sc__law_all.nd rfl (.inl rfl))
        (pss_cons (ps_set (i := 3) sc__law_all.nd rfl (.inl rfl) (pe_lst pa_nil))
          (pss_cons (ps_for PassesOwn.never rfl (pi_list (pv 1)) (pg_tup rfl (pgs_cons (pg_name (i := 4) sc__law_all.nd rfl (.inl rfl)) (pgs_cons (pg_name (i := 5) sc__law_all.nd rfl (.inl rfl)) pgs_nil)))
            (pss_one (ps_for PassesOwn.never rfl (pi_range1 (by rfl) T.range (pa_cons (pe_op op_add (pe_callB call_len_seq (by rfl) T.len (by decide +kernel) (pa_cons (pv 5) pa_nil)) pe_int) pa_nil)) (pg_name (i := 6) sc__law_all.nd rfl (.inl rfl))
                (pss_cons (ps_set (i := 7) sc__law_all.nd rfl (.inl rfl) (pe_op op_add pe_int (pe_callB (cr_sumA rfl) (by rfl) T.sum (by decide +kernel) (pa_cons (pe_slice sl_tupA (pv 5) (po_some (pe_op op_sub (pe_callB call_len_seq (by rfl) T.len (by decide +kernel) (pa_cons (pv 5) pa_nil)) (pv 6))) po_none) pa_nil))))
                  (pss_one (ps_expr (pe_bm PySem.F.plainAttrs_list PySem.F.slot_list_append PySem.F.type_list_append mt_append (pv 3) (pa_cons (pe_tup (pa_cons (pe_op op_catA (pv 4) (pe_tup (pa_cons (pv 7) pa_nil))) (pa_cons (pe_op op_catA (pe_slice sl_tupA (pv 5) po_none (po_some (pe_op op_sub (pe_callB call_len_seq (by rfl) T.len (by decide +kernel) (pa_cons (pv 5) pa_nil)) (pv 6)))) (pe_tup (pa_cons (pv 7) pa_nil))) pa_nil))) pa_nil))))))))
          (pss_one (ps_set (i := 1) sc__law_all.nd rfl (.inl rfl) (pv 3))))))
      (pss_one (ps_ret (pe_lc (own := [("row", 4), ("tops", 5)]) (g := (gTup K 2 (gCons (gName 4) (gCons (gName 5) gNil)))) (by rfl) sc__law_all.nd (pi_list (pv 1)) (blkOk_by (own := [("row", 4), ("tops", 5)]) (N := ["size_here", "found", "turn", "longer", "row", "tops", "many", "entry"]) (sc := defScope s__law_all) (by decide +kernel)) (fun _ _ _ _ _ => (pg_tup rfl (pgs_cons (pg_name (i := 4) sc__law_all.nd rfl (.inl rfl)) (pgs_cons (pg_name (i := 5) sc__law_all.nd rfl (.inl rfl)) pgs_nil)))) (fun _ _ _ _ _ => pts_nil) (fun _ _ _ _ _ => (pv 4))))))), ?_⟩
  refine ⟨Nat.zero_le _, fun e1 he1 => ?_⟩
  refine ⟨Nat.zero_le _, fun e2 he2 => ?_⟩
  refine ⟨by show 2 ≤ sizeLine; decide, fun p1 hp1 => ?_⟩
  refine ⟨by show 1 ≤ sizeLine; decide, fun f0 hf0 => ?_⟩
  have Y1 := Evl.Ex.new (o := .tup []) he1
  have Y2 := Evl.Ex.new (o := .tup []) he2
  have Y3 := Evl.Ex.new (o := .tup [.ref e1, .ref e2]) hp1
  have Y4 := Evl.Ex.new (o := .lst [.ref p1]) hf0
  have hf1 : H f0 = none := Evl.fresh_back (Y1.trans (Y2.trans Y3)) hf0
  have hok : EnOk (upd (upd (upd (upd H e1 (.tup [])) e2 (.tup [])) p1 (.tup [.ref e1, .ref e2])) f0 (.lst [.ref p1])) ⟨p1, e1, e2, ([], [])⟩ :=
    ⟨Y4 _ _ upd_same, (Y2.trans (Y3.trans Y4)) _ _ upd_same, (Y3.trans Y4) _ _ upd_same⟩
  have X0 := Y1.trans (Y2.trans (Y3.trans Y4))
  have hfl : (upd (upd (upd (upd H e1 (.tup [])) e2 (.tup [])) p1 (.tup [.ref e1, .ref e2])) f0 (.lst [.ref p1])) f0 = some (.lst (refE [⟨p1, e1, e2, ([], [])⟩])) := upd_same
  generalize upd (upd (upd (upd H e1 (.tup [])) e2 (.tup [])) p1 (.tup [.ref e1, .ref e2])) f0 (.lst [.ref p1]) = H0 at X0 hok hfl ⊢
  clear Y1 Y2 Y3 Y4 hf0 hp1 he2 he1
  refine ⟨_, rfl, _, rfl, by omega, by omega, ?_⟩
  refine for_range (lo := 0) (n := (n : Int).toNat) (fun i σ H' => Ex H H' ∧ ∃ (fo : Addr) (es : List EnR), H' fo = some (.lst (refE es)) ∧ es.map (·.r) = rowsR i ∧ (∀ e ∈ es, EnOk H' e) ∧ ∃ y2 y3 y4 y5 y6 y7 : Option V, σ = [some (.int n), some (.ref fo), y2, y3, y4, y5, y6, y7])
    ⟨X0, f0, [⟨p1, e1, e2, ([], [])⟩], hfl, rfl, fun e h => by rw [List.mem_singleton.mp h]; exact hok, _, _, _, _, _, _, rfl⟩ ?_ ?_
  · rintro i σ H1 hi ⟨X1, fo, es, hfo, hes, hE, y2, y3, y4, y5, y6, y7, rfl⟩
    have hi7 : i < 7 := by omega
    refine ⟨Nat.zero_le _, fun lg hlg => ?_⟩
    have Y1 := Evl.Ex.new (o := .lst []) hlg
    have hlgH : H lg = none := Evl.fresh_back X1 hlg
    have hel : es.length ≤ 429 := by
      have := congrArg List.length hes
      rw [List.length_map] at this
      rw [this]; exact rowsR_len (by omega)
    refine ⟨_, rfl, fo, rfl, ⟨_, SqL.of (Y1 _ _ hfo)⟩, ?_⟩
    refine for_list (K := K) (a := fo) (xs := refE es) (fun j σ H' => Ex H1 H' ∧ ∃ ls : List EnR, H' lg = some (.lst (refE ls)) ∧ ls.map (·.r) = ((es.take j).map (·.r)).flatMap growR ∧ (∀ e ∈ ls, EnOk H' e) ∧ ∃ y4 y5 y6 y7 : Option V, σ = [some (.int n), some (.ref fo), some (.int (0 + (i : Int))), some (.ref lg), y4, y5, y6, y7])
      ⟨Y1, [], upd_same, rfl, fun e h => (List.not_mem_nil h).elim, _, _, _, _, rfl⟩ (fun j σ H' _ h => SqL.of (h.1 _ _ hfo)) ?_ ?_
    · rintro j v σ H2 hv ⟨X2, ls, hls, hlr, hlE, y4, y5, y6, y7, rfl⟩
      have hj : j < es.length := by
        have := (List.getElem?_eq_some_iff.mp hv).1
        unfold refE at this
        rwa [List.length_map] at this
      have ev : v = .ref es[j].p := by
        unfold refE at hv
        rw [List.getElem?_map, List.getElem?_eq_getElem hj] at hv
        exact (Option.some.inj hv).symm
      subst ev
      have hem : es[j] ∈ es := List.getElem_mem hj
      have hc := (hE es[j] hem).ex X2
      have hgr := rowsR_gr i es[j].r (by rw [← hes]; exact List.mem_map_of_mem hem)
      obtain ⟨ce, hce⟩ : ∃ ce, es[j] = ce := ⟨_, rfl⟩
      rw [hce] at hc hgr ⊢
      obtain ⟨cp, ca, cb, cy, ct⟩ := ce
      obtain ⟨G, gl, gz⟩ := hgr
      have gl : cy.length = i := gl
      have gz : ct.length ≤ i := gz
      refine ⟨cp, _, rfl, SqT.of hc.pr, rfl, _, _, rfl, _, _, rfl, rfl, ?_⟩
      refine ⟨_, rfl, cb, _, rfl, .inr (SqT.of hc.tp), _, _, rfl, rfl, ?_⟩
      rw [List.length_map]
      refine ⟨_, rfl, by omega, by omega, ?_⟩
      refine for_range (lo := 0) (n := ((ct.length : Int) + 1).toNat) (fun m σ H' => Ex H1 H' ∧ Ex H2 H' = Ex H2 H' ∧ ∃ ks : List EnR, H' lg = some (.lst (refE ks)) ∧ ks.map (·.r) = ls.map (·.r) ++ (List.range m).map (grow1 (cy, ct)) ∧ (∀ e ∈ ks, EnOk H' e) ∧ EnOk H' ⟨cp, ca, cb, (cy, ct)⟩ ∧ ∃ y6 y7 : Option V, σ = [some (.int n), some (.ref fo), some (.int (0 + (i : Int))), some (.ref lg), some (.ref ca), some (.ref cb), y6, y7])
        ⟨X2, rfl, ls, hls, by rw [List.range_zero, List.map_nil, List.append_nil], hlE, hc, _, _, rfl⟩ ?_ ?_
      · rintro m σ H3 hm ⟨X3, _, ks, hks, hkr, hkE, hc3, y6, y7, rfl⟩
        have hm : m ≤ ct.length := by omega
        have hkl : ks.length ≤ 10000 := by
          have := congrArg List.length hkr
          rw [List.length_map, List.length_append, List.length_map, List.length_map, List.length_range] at this
          have h2 := congrArg List.length hlr
          rw [List.length_map] at h2
          have h3 := flat_len (L := (es.take j).map (·.r)) fun p hp => by
            obtain ⟨e, he, rfl⟩ := List.mem_map.mp hp
            have := (rowsR_gr i e.r (by rw [← hes]; exact List.mem_map_of_mem (List.mem_of_mem_take he))).2.2
            omega
          rw [← h2, List.length_map, List.length_take] at h3
          omega
        have ecl : ((ct.length : Nat) : Int) - (0 + (m : Int)) = ((ct.length - m : Nat) : Int) := by omega
        obtain ⟨w, hw⟩ : ∃ w : Int, 1 + (ct.drop (ct.length - m)).sum = w := ⟨_, rfl⟩
        refine ⟨_, rfl, _, rfl, cb, _, rfl, .inr (SqT.of hc3.tp), _, rfl, _, _, rfl, rfl, _, rfl, ?_⟩
        rw [List.length_map, ecl]
        unfold tNoPart
        show rSlA _ _ _ _ _ _
        refine slA_any (SqT.of hc3.tp) fun sa H4 X4 hsa => ?_
        rw [cutR_drop ct _ (by omega)] at hsa
        refine ⟨sa, _, rfl, .inr hsa, _, _, rfl, rfl, ?_⟩
        rw [show (fun i j : Int => V.int (i + j)) 1 (ct.drop (ct.length - m)).sum = V.int w from congrArg V.int hw]
        refine ⟨_, rfl, .inl ⟨rfl, _, SqL.of (X4 _ _ hks)⟩, _, rfl, _, rfl, by show 1 ≤ sizeLine; decide, fun o1 ho1 => ?_⟩
        have Y5 := Evl.Ex.new (o := .tup [.int w]) ho1
        refine catA_one (SqT.of ((X4.trans Y5) _ _ hc3.ro)) upd_same (by omega) fun ra H5 X5 hra => ?_
        have X45 := X4.trans (Y5.trans X5)
        refine ⟨_, rfl, _, rfl, cb, _, rfl, .inr (SqT.of (X45 _ _ hc3.tp)), _, rfl, _, _, rfl, rfl, _, rfl, ?_⟩
        rw [List.length_map, ecl]
        show rSlA _ _ _ _ _ _
        refine slA_any (SqT.of (X45 _ _ hc3.tp)) fun sb H6 X6 hsb => ?_
        rw [cutR_take ct _ (by omega)] at hsb
        refine ⟨_, rfl, by show 1 ≤ sizeLine; decide, fun o2 ho2 => ?_⟩
        have Y7 := Evl.Ex.new (o := .tup [.int w]) ho2
        refine catA_one (Evl.ex_t Y7 hsb) upd_same (by rw [List.length_take]; omega) fun ta H7 X7 hta => ?_
        have X47 := X6.trans (Y7.trans X7)
        refine ⟨by show 2 ≤ sizeLine; decide, fun np hnp => ?_⟩
        have Y8 := Evl.Ex.new (o := .tup [.ref ra, .ref ta]) hnp
        have XX := X45.trans (X47.trans Y8)
        have hn : EnOk (upd H7 np (.tup [.ref ra, .ref ta])) ⟨np, ra, ta, grow1 (cy, ct) m⟩ := by
          refine ⟨upd_same, ?_, ?_⟩
          · show _ = some (HO.tup ((cy ++ [1 + (ct.drop (ct.length - m)).sum]).map V.int))
            rw [hw]; exact (X47.trans Y8) _ _ hra
          · show _ = some (HO.tup ((ct.take (ct.length - m) ++ [1 + (ct.drop (ct.length - m)).sum]).map V.int))
            rw [hw]; exact Y8 _ _ hta
        have hk8 := XX _ _ hks
        have hE8 : ∀ e ∈ ks, EnOk (upd H7 np (.tup [.ref ra, .ref ta])) e := fun e he => (hkE e he).ex XX
        have hc8 := hc3.ex XX
        refine ⟨lg, _, _, rfl, rfl, hk8, ?_, ?_⟩
        · unfold refE; rw [List.length_map]; exact Nat.lt_of_le_of_lt hkl (by decide)
        · refine ⟨Evl.Ex.mut (X3.trans XX) hlg, rfl, ks ++ [⟨np, ra, ta, grow1 (cy, ct) m⟩], ?_, ?_, fun e he => ?_, hc8.mut hk8, _, _, rfl⟩
          · rw [upd_same]; unfold refE; rw [List.map_append]; rfl
          · rw [List.map_append, hkr, List.range_succ, List.map_append, List.append_assoc]; rfl
          · rcases List.mem_append.mp he with he | he
            · exact (hE8 e he).mut hk8
            · rw [List.mem_singleton.mp he]; exact hn.mut hk8
      · rintro σ H3 ⟨X3, _, ks, hks, hkr, hkE, hc3, y6, y7, rfl⟩
        refine ⟨X3, ks, hks, ?_, hkE, _, _, _, _, rfl⟩
        rw [hkr, hlr, show ((ct.length : Int) + 1).toNat = ct.length + 1 by omega, List.take_add_one, List.getElem?_eq_getElem hj]
        rw [hce, List.map_append, List.flatMap_append]
        show _ ++ _ = _ ++ ([((cy, ct) : RR)].flatMap growR)
        rw [List.flatMap_cons, List.flatMap_nil, List.append_nil]
        rfl
    · rintro σ H2 ⟨X2, ls, hls, hlr, hlE, y4, y5, y6, y7, rfl⟩
      refine ⟨_, rfl, ?_⟩
      rw [show (refE es).length = es.length by unfold refE; rw [List.length_map], List.take_length, hes] at hlr
      exact ⟨X1.trans X2, lg, ls, hls, hlr, hlE, _, _, _, _, _, _, rfl⟩
  · rintro σ H1 ⟨X1, fo, es, hfo, hes, hE, y2, y3, y4, y5, y6, y7, rfl⟩
    rw [show (n : Int).toNat = n by omega] at hes
    refine ⟨_, rfl, fo, rfl, ⟨_, SqL.of hfo⟩, fun D hD => ?_⟩
    have hel : es.length ≤ 429 := by
      have := congrArg List.length hes
      rw [List.length_map] at this
      rw [this]; exact rowsR_len (by omega)
    refine lc_list (K := K) (a := fo) (xs := refE es) (fun j H' => Ex H1 H' ∧ ∃ us : List (Addr × List Int), H' D = some (.lst (refs us)) ∧ us.length = j ∧ TpR H' us ∧ us.map (·.2) = (es.take j).map (·.r.1)) ⟨Evl.Ex.new hD, [], upd_same, rfl, fun u h => (List.not_mem_nil h).elim, rfl⟩ (fun j H' _ h => SqL.of (h.1 _ _ hfo)) ?_ ?_
    · rintro j v H2 hv ⟨X2, us, hus, hul, hT, hur⟩
      have hj : j < es.length := by
        have := (List.getElem?_eq_some_iff.mp hv).1
        unfold refE at this
        rwa [List.length_map] at this
      have ev : v = .ref es[j].p := by
        unfold refE at hv
        rw [List.getElem?_map, List.getElem?_eq_getElem hj] at hv
        exact (Option.some.inj hv).symm
      subst ev
      have hc := (hE es[j] (List.getElem_mem hj)).ex X2
      refine ⟨es[j].p, _, rfl, SqT.of hc.pr, rfl, _, _, rfl, _, _, rfl, rfl, rfl, ?_⟩
      dsimp only [tYes]
      rw [if_pos rfl]
      refine ⟨_, rfl, _, hus, small1000 (by unfold refs; rw [List.length_map]; omega), Evl.Ex.mut X2 hD, us ++ [(es[j].a, es[j].r.1)], ?_, by rw [List.length_append, hul]; rfl, ?_, ?_⟩
      · rw [upd_same]; unfold refs; rw [List.map_append]; rfl
      · refine TpR.mut (o' := .lst (refs us)) (fun u hu => ?_) hus (fun vs h => by cases h)
        rcases List.mem_append.mp hu with hu | hu
        · exact hT u hu
        · rw [List.mem_singleton.mp hu]; exact hc.ro
      · rw [List.map_append, hur, List.take_add_one, List.getElem?_eq_getElem hj, List.map_append]; rfl
    · rintro H2 ⟨X2, us, hus, hul, hT, hur⟩
      rw [show (refE es).length = es.length by unfold refE; rw [List.length_map], List.take_length] at hur
      refine q D H2 us (Evl.fresh_back X1 hD) (X1.trans X2) hus hT ?_
      rw [hur, ← hes, List.map_map]; rfl
end
end K21

set_option Elab.async false
set_option linter.all false
set_option maxRecDepth 100000
set_option maxHeartbeats 1000000
namespace K21
open PySem PySem.Spec
open PyProof.Rows L2 Sx
section
variable {P : Program} {w : World} {K : PySem.W.Frag} {mg : Str → Option Value} {base : Heap}
def sp__law_still (K : PySem.W.Frag) : Sp := fun vs H Q _ => ∃ a, ∃ xs : List Int, vs = [.ref a] ∧ SqT K H a (xs.map V.int) ∧ xs.length ≤ 200 ∧ ∀ H', Ex H H' → Q (.bl (decide (spans xs = xs))) H'
theorem ok__law_still {f : Addr} {fd : FuncData} (D : DefAt K mg "_law_still" s__law_still ["spans_here"] f fd) (T : Top mg) (c__law_spans : C8.Cal P w K mg base 1 "_law_spans" (sp__law_spans K) []) :
    C8.Cal P w K mg base 2 "_law_still" (sp__law_still K) [] := by
  refine D.cal sc__law_still (fun vs H Q E h => ?len) fun cdv A outer s H vs Q E hr h => ?body
  case len => obtain ⟨a, xs, rfl, _⟩ := h; rfl
  obtain ⟨a, xs, rfl, hS, hz, q⟩ := h
  refine ⟨_, (pss_one (ps_ret (pe_cmpR (op_eqD hr.units) (C8.pe_c c__law_spans hr (by decide) (by rfl) (pa_cons (pv 0) pa_nil)) (pv 0) (nomark _)))), ?_⟩
  refine ⟨_, rfl, a, xs, rfl, hS, hz, fun p H1 hp X1 hp1 => ?_⟩
  refine ⟨_, rfl, .tuple ((spans xs).map PyData.int), .tuple (xs.map PyData.int), .tup (SqT.of hp1) (dp_ints _), .tup (Evl.ex_t X1 hS) (dp_ints _), shaped_tup _, shaped_tup _, ?_⟩
  rw [eqv_tup]
  exact q _ X1
theorem dp_of {K : PySem.W.Frag} {H : Hp} {us : List (Addr × List Int)} {L : List (List Int)} (h : TpR H us) (e : us.map (·.2) = L) : DpAll K H (refs us) (L.map fun l => .tuple (l.map PyData.int)) := by
  rw [← e]; exact dp_refs h
theorem sm_rows {L : List (List Int)} {n : Nat} (hn : n ≤ 7) (hz : L.length ≤ 429) (h : ∀ x ∈ L, Lam x ∧ x.length = n) : Sm (rowsD2 L) 2 (429 * (7 * (0 + 1) + 1)) := by
  refine Sm.list (fun d hd => ?_) (by rw [List.length_map]; exact hz)
  obtain ⟨x, hx, rfl⟩ := List.mem_map.mp hd
  obtain ⟨hL, hl⟩ := h x hx
  refine Sm.tuple (fun d hd => ?_) (by rw [List.length_map]; omega)
  obtain ⟨y, hy, rfl⟩ := List.mem_map.mp hd
  obtain ⟨i, hi, rfl⟩ := List.mem_iff_getElem.mp hy
  have e : g x i = x[i] := by unfold g; rw [List.getD_eq_getElem?_getD, List.getElem?_eq_getElem hi]; rfl
  rw [← e]
  have := hL.lo i hi
  have := hL.hi i hi
  exact .int (small_log (by omega) (by omega))
theorem sm_two {a b : PyData} {k c : Nat} (ha : Sm a k c) (hb : Sm b k c) : Sm (.list [a, b]) (k + 1) (2 * (c + 1)) := Sm.list (fun d hd => by
  simp only [List.mem_cons, List.not_mem_nil, or_false] at hd
  rcases hd with e | e <;> rw [e] <;> assumption) (Nat.le_refl 2)
theorem rw_lam21 {xs : List Int} (L : Lam xs) (h0 : 1 ≤ xs.length) (h1 : xs.length ≤ 100) : Rw xs := by
  refine ⟨h0, h1, fun x hx => ?_⟩
  obtain ⟨i, hi, rfl⟩ := List.mem_iff_getElem.mp hx
  have e : g xs i = xs[i] := by unfold g; rw [List.getD_eq_getElem?_getD, List.getElem?_eq_getElem hi]; rfl
  rw [← e]
  have := L.lo i hi
  have := L.hi i hi
  have e30 : (10 : Int) ^ 30 = 1000000000000000000000000000000 := by decide
  rw [e30]
  omega
def nsI (m : Nat) : List Int := (List.range m).map fun i : Nat => (i : Int)
theorem nsI_len (m : Nat) : (nsI m).length = m := by unfold nsI; rw [List.length_map, List.length_range]
theorem nsI_succ (m : Nat) : (nsI (m + 1)).map V.int = (nsI m).map V.int ++ [V.int (m : Int)] := by unfold nsI; rw [List.range_succ, List.map_append, List.map_append]; rfl
theorem rgV_ns (m : Nat) : rgV 0 (m : Int) = (nsI m).map V.int := by
  unfold rgV nsI
  rw [List.map_map, show ((m : Int) - 0).toNat = m by omega]
  refine List.map_congr_left fun i _ => ?_
  show V.int (0 + (i : Int)) = V.int (i : Int)
  rw [Int.zero_add]
theorem sm_ns {m : Nat} (h : m ≤ 429) : Sm (.list ((nsI m).map PyData.int)) 1 (429 * (0 + 1)) := by
  refine Sm.list (fun d hd => ?_) (by rw [List.length_map, nsI_len]; exact h)
  obtain ⟨x, hx, rfl⟩ := List.mem_map.mp hd
  obtain ⟨i, hi, rfl⟩ := List.mem_map.mp hx
  have := List.mem_range.mp hi
  exact .int (small_log (by omega) (by omega))
def sp__law_size_right (K : PySem.W.Frag) : Sp := fun vs H Q _ => ∃ n : Nat, vs = [.int (n : Int)] ∧ 1 ≤ n ∧ n ≤ 7 ∧ ∀ H', Ex H H' → Q (.bl true) H'
theorem ok__law_size_right {f : Addr} {fd : FuncData} (D : DefAt K mg "_law_size_right" s__law_size_right ["size_here"] f fd) (T : Top mg) (c__law_all : C8.Cal P w K mg base 1 "_law_all" (sp__law_all K) []) (c_spans_number : C8.Cal P w K mg base 7 "spans_number" (sp_spans_number K) []) (c_still_number : C8.Cal P w K mg base 103 "still_number" (sp_still_number K) []) (c__law_still : C8.Cal P w K mg base 2 "_law_still" (sp__law_still K) []) (c_count_spans : C8.Cal P w K mg base 4 "count_spans" (sp_count_spans K) []) (c_count_still : C8.Cal P w K mg base 4 "count_still" (sp_count_still K) []) (c_nth_spans : C8.Cal P w K mg base 4 "nth_spans" (sp_nth_spans K) []) (c_nth_still : C8.Cal P w K mg base 103 "nth_still" (sp_nth_still K) []) :
    GCal P w K mg base 104 "_law_size_right" (sp__law_size_right K) := by
  refine D.gcal sc__law_size_right (fun vs H Q E h => ?len) fun cdv A outer s H vs Q E hG hr h => ?body
  case len => obtain ⟨n, rfl, _⟩ := h; rfl
  obtain ⟨n, rfl, n1, n7, q⟩ := h
  refine ⟨_, (pss_cons (ps_set (i := 1) sc__law_size_right.nd rfl (.inl rfl) (pe_callB cr_sortedTT (by rfl) T.sorted (by decide +kernel) (pa_cons (C8.pe_c c__law_all hr (by decide) (by rfl) (pa_cons (pv 0) pa_nil)) pa_nil)))
      (pss_cons (ps_set (i := 2) sc__law_size_right.nd rfl (.inl rfl) (pe_callB cr_sortedTT (by rfl) T.sorted (by decide +kernel) (pa_cons (pe_lc (own := [("row", 6)]) (g := gName 6) (by rfl) sc__law_size_right.nd (pi_list (pv 1)) (blkOk_by (own := [("row", 6)]) (N := ["size_here", "every", "some", "kept", "again", "told", "row", "spot"]) (sc := defScope s__law_size_right) (by decide +kernel)) (fun _ _ _ _ _ => (pg_name (i := 6) sc__law_size_right.nd rfl (.inl rfl))) (fun _ _ _ _ _ => (pts_one (pt_val (C8.pe_c c__law_still hr (by decide) (by rfl) (pa_cons (pv 6) pa_nil))))) (fun _ _ _ _ _ => (show PE _ _ (tRevT K _) from pe_revT (pv 6)))) pa_nil)))
      (pss_cons (ps_setLc (i := 2) (own := [("row", 6)]) (g := gName 6) (by rfl) sc__law_size_right.nd rfl rfl (sw_true rfl rfl rfl (by decide +kernel)) (pi_list (pv 2)) (blkOk_by (own := [("row", 6)]) (N := ["size_here", "every", "some", "kept", "again", "told", "row", "spot"]) (sc := defScope s__law_size_right) (by decide +kernel)) (fun _ _ _ _ _ => (pg_name (i := 6) sc__law_size_right.nd rfl (.inl rfl))) (fun _ _ _ _ _ => pts_nil) (fun _ _ _ _ _ => (show PE _ _ (tRevT K _) from pe_revT (pv 6))))
      (pss_cons (ps_set (i := 3) sc__law_size_right.nd rfl (.inl rfl) (pe_callB (call_reprD hG hr) (by rfl) T.repr (by decide +kernel) (pa_cons (pe_lst (pa_cons (pv 1) (pa_cons (pv 2) pa_nil))) pa_nil)))
      (pss_cons (ps_for PassesOwn.never rfl (pi_range1 (by rfl) T.range (pa_cons pe_int pa_nil)) (pg_name (i := 4) sc__law_size_right.nd rfl (.inl rfl))
        (pss_cons (ps_if (pt_cmpR op_ne (pe_callB (call_reprD hG hr) (by rfl) T.repr (by decide +kernel) (pa_cons (pe_lst (pa_cons (C8.pe_c c_count_spans hr (by decide) (by rfl) (pa_cons (pv 0) pa_nil)) (pa_cons (C8.pe_c c_count_still hr (by decide) (by rfl) (pa_cons (pv 0) pa_nil)) pa_nil))) pa_nil)) (pe_callB (call_reprD hG hr) (by rfl) T.repr (by decide +kernel) (pa_cons (pe_lst (pa_cons (pe_callB call_len_seq (by rfl) T.len (by decide +kernel) (pa_cons (pv 1) pa_nil)) (pa_cons (pe_callB call_len_seq (by rfl) T.len (by decide +kernel) (pa_cons (pv 2) pa_nil)) pa_nil))) pa_nil)) (nomark _))
            (pss_one (ps_ret pe_bl))
            pss_nil)
          (pss_cons (ps_if (pt_cmpR op_ne (pe_callB (call_reprD hG hr) (by rfl) T.repr (by decide +kernel) (pa_cons (pe_lc (own := [("spot", 7)]) (g := gName 7) (by rfl) sc__law_size_right.nd (pi_range1 (by rfl) T.range (pa_cons (pe_callB call_len_seq (by rfl) T.len (by decide +kernel) (pa_cons (pv 1) pa_nil)) pa_nil)) (blkOk_by (own := [("spot", 7)]) (N := ["size_here", "every", "some", "kept", "again", "told", "row", "spot"]) (sc := defScope s__law_size_right) (by decide +kernel)) (fun _ _ _ _ _ => (pg_name (i := 7) sc__law_size_right.nd rfl (.inl rfl))) (fun _ _ _ _ _ => pts_nil) (fun _ _ _ _ _ => (C8.pe_c c_nth_spans hr (by decide) (by rfl) (pa_cons (pv 0) (pa_cons (pv 7) pa_nil))))) pa_nil)) (pe_callB (call_reprD hG hr) (by rfl) T.repr (by decide +kernel) (pa_cons (pv 1) pa_nil)) (nomark _))
            (pss_one (ps_ret pe_bl))
            pss_nil)
          (pss_one (ps_if (pt_cmpR op_ne (pe_callB (call_reprD hG hr) (by rfl) T.repr (by decide +kernel) (pa_cons (pe_lc (own := [("spot", 7)]) (g := gName 7) (by rfl) sc__law_size_right.nd (pi_range1 (by rfl) T.range (pa_cons (pe_callB call_len_seq (by rfl) T.len (by decide +kernel) (pa_cons (pv 2) pa_nil)) pa_nil)) (blkOk_by (own := [("spot", 7)]) (N := ["size_here", "every", "some", "kept", "again", "told", "row", "spot"]) (sc := defScope s__law_size_right) (by decide +kernel)) (fun _ _ _ _ _ => (pg_name (i := 7) sc__law_size_right.nd rfl (.inl rfl))) (fun _ _ _ _ _ => pts_nil) (fun _ _ _ _ _ => (C8.pe_c c_nth_still hr (by decide) (by rfl) (pa_cons (pv 0) (pa_cons (pv 7) pa_nil))))) pa_nil)) (pe_callB (call_reprD hG hr) (by rfl) T.repr (by decide +kernel) (pa_cons (pv 2) pa_nil)) (nomark _))
            (pss_one (ps_ret pe_bl))
            pss_nil)))))
      (pss_cons (ps_set (i := 5) sc__law_size_right.nd rfl (.inl rfl) (pe_lst (pa_cons (pe_lc (own := [("row", 6)]) (g := gName 6) (by rfl) sc__law_size_right.nd (pi_list (pv 1)) (blkOk_by (own := [("row", 6)]) (N := ["size_here", "every", "some", "kept", "again", "told", "row", "spot"]) (sc := defScope s__law_size_right) (by decide +kernel)) (fun _ _ _ _ _ => (pg_name (i := 6) sc__law_size_right.nd rfl (.inl rfl))) (fun _ _ _ _ _ => pts_nil) (fun _ _ _ _ _ => (C8.pe_c c_spans_number hr (by decide) (by rfl) (pa_cons (pv 6) pa_nil)))) (pa_cons (pe_lc (own := [("row", 6)]) (g := gName 6) (by rfl) sc__law_size_right.nd (pi_list (pv 2)) (blkOk_by (own := [("row", 6)]) (N := ["size_here", "every", "some", "kept", "again", "told", "row", "spot"]) (sc := defScope s__law_size_right) (by decide +kernel)) (fun _ _ _ _ _ => (pg_name (i := 6) sc__law_size_right.nd rfl (.inl rfl))) (fun _ _ _ _ _ => pts_nil) (fun _ _ _ _ _ => (C8.pe_c c_still_number hr (by decide) (by rfl) (pa_cons (pv 6) pa_nil)))) pa_nil))))
      (pss_one (ps_ret (pe_and (pe_cmpR op_eq (pe_callB (call_reprD hG hr) (by rfl) T.repr (by decide +kernel) (pa_cons (pv 5) pa_nil)) (pe_callB (call_reprD hG hr) (by rfl) T.repr (by decide +kernel) (pa_cons (pe_lst (pa_cons (pe_listRg rfl (by rfl) T.list (prg_1 (by rfl) T.range (pe_callB call_len_seq (by rfl) T.len (by decide +kernel) (pa_cons (pv 1) pa_nil)))) (pa_cons (pe_listRg rfl (by rfl) T.list (prg_1 (by rfl) T.range (pe_callB call_len_seq (by rfl) T.len (by decide +kernel) (pa_cons (pv 2) pa_nil)))) pa_nil))) pa_nil)) (nomark _)) (pe_one (pe_cmpR op_eq (pe_callB (call_reprD hG hr) (by rfl) T.repr (by decide +kernel) (pa_cons (pe_lst (pa_cons (pv 1) (pa_cons (pv 2) pa_nil))) pa_nil)) (pv 3) (nomark _)))))))))))), ?_⟩
  refine ⟨_, rfl, n, rfl, n7, fun p0 G1 us hp0 Y1 hus hT hur => ?_⟩
  have hmU : ∀ x, x ∈ us.map (·.2) ↔ Lam x ∧ x.length = n := fun x => by rw [hur]; exact rowsR_iff x
  unfold tNil
  show rSortedTT _ _ _ _
  refine sortedTT_of (SqL.of hus) hT (fun u hu => ?_) fun ws p1 hwp hws hwT hp1 => ?_
  · have := ((hmU u.2).mp (List.mem_map_of_mem hu)).2
    intro e; rw [e] at this; simp at this; omega
  obtain ⟨R, hR⟩ : ∃ R : List (List Int), ws.map (·.2) = R := ⟨_, rfl⟩
  rw [hR] at hwp hws
  rw [hur] at hwp
  have hmR : ∀ x ∈ R, Lam x ∧ x.length = n := fun x hx => (rowsR_iff x).mp (hwp.mem_iff.mp hx)
  have hRl : R.length = wys n 0 := by rw [hwp.length_eq, List.length_map]; exact rowsR_wys n1 n7
  have hR4 : R.length ≤ 429 := by rw [hwp.length_eq, List.length_map]; exact rowsR_len n7
  have hwl : ws.length = R.length := by rw [← hR, List.length_map]
  have Y2 := Evl.Ex.new (o := .lst (refs ws)) hp1
  have X1 := Y1.trans Y2
  have hwT2 := hwT.ex Y2
  have hw2 : (upd G1 p1 (.lst (refs ws))) p1 = some (.lst (refs ws)) := upd_same
  generalize upd G1 p1 (.lst (refs ws)) = G2 at X1 hwT2 hw2 ⊢
  clear Y2 hwT hp1 hmU hT hus Y1 hp0
  -- the still ones, reversed
  refine ⟨_, rfl, p1, rfl, ⟨_, SqL.of hw2⟩, fun D hD => ?_⟩
  refine lc_list (K := K) (a := p1) (xs := refs ws) (fun j H' => Ex G2 H' ∧ ∃ zs : List (Addr × List Int), H' D = some (.lst (refs zs)) ∧ TpR H' zs ∧ zs.length ≤ j ∧ zs.map (·.2) = ((R.take j).filter stl).map List.reverse) ⟨Evl.Ex.new hD, [], upd_same, fun u h => (List.not_mem_nil h).elim, Nat.le_refl _, rfl⟩ (fun j H' _ h => SqL.of (h.1 _ _ hw2)) ?_ ?_
  · rintro j v G3 hv ⟨Y3, zs, hD3, hzT, hzl, hzr⟩
    have hj : j < ws.length := by
      have := (List.getElem?_eq_some_iff.mp hv).1
      unfold refs at this
      rwa [List.length_map] at this
    have ev : v = .ref ws[j].1 := by
      unfold refs at hv
      rw [List.getElem?_map, List.getElem?_eq_getElem hj] at hv
      exact (Option.some.inj hv).symm
    subst ev
    have hu := Y3 _ _ (hwT2 ws[j] (List.getElem_mem hj))
    have hRj : R[j]? = some ws[j].2 := by rw [← hR, List.getElem?_map, List.getElem?_eq_getElem hj]; rfl
    obtain ⟨hL, hl⟩ := hmR ws[j].2 (List.mem_of_getElem? hRj)
    have etk : R.take (j + 1) = R.take j ++ [ws[j].2] := by rw [List.take_add_one, hRj]; rfl
    refine ⟨rfl, _, rfl, ws[j].1, ws[j].2, rfl, SqT.of hu, by omega, fun G4 Y4 => ⟨_, rfl, ?_⟩⟩
    by_cases c : spans ws[j].2 = ws[j].2
    · have hc : stl ws[j].2 = true := decide_eq_true c
      rw [decide_eq_true c]
      refine iteT ?_
      refine ⟨_, rfl, ws[j].1, _, rfl, SqT.of (Y4 _ _ hu), fun r hr => ?_⟩
      have Y5 := Evl.Ex.new (o := .tup (ws[j].2.map V.int).reverse) hr
      have hD5 := (Y4.trans Y5) _ _ hD3
      refine ⟨_, hD5, small1000 (by unfold refs; rw [List.length_map]; omega), Evl.Ex.mut (Y3.trans (Y4.trans Y5)) hD, zs ++ [(r, ws[j].2.reverse)], ?_, ?_, by rw [List.length_append]; show zs.length + 1 ≤ _; omega, ?_⟩
      · rw [upd_same]; unfold refs; rw [List.map_append]; rfl
      · refine TpR.mut (o' := .lst (refs zs)) (fun u hu => ?_) hD5 (fun vs h => by cases h)
        rcases List.mem_append.mp hu with hu | hu
        · exact (Y4.trans Y5) _ _ (hzT u hu)
        · rw [List.mem_singleton.mp hu, upd_same, List.map_reverse]
      · rw [etk, List.filter_append, List.filter_cons_of_pos hc, List.filter_nil, List.map_append, List.map_append, hzr]; rfl
    · have hc : ¬ stl ws[j].2 = true := fun h => c (of_decide_eq_true h)
      rw [decide_eq_false c]
      refine iteF ?_
      refine ⟨Y3.trans Y4, zs, Y4 _ _ hD3, hzT.ex Y4, by omega, ?_⟩
      rw [etk, List.filter_append, List.filter_cons_of_neg hc, List.filter_nil, List.append_nil]
      exact hzr
  rintro G3 ⟨Y3, zs, hD3, hzT, hzl, hzr⟩
  rw [show (refs ws).length = R.length by unfold refs; rw [List.length_map, hwl]] at hzl hzr
  rw [List.take_length] at hzr
  refine sortedTT_of (SqL.of hD3) hzT (fun u hu => ?_) fun vs p2 hvp hvs hvT hp2 => ?_
  · have h1 : u.2 ∈ ((R.filter stl).map List.reverse) := by rw [← hzr]; exact List.mem_map_of_mem hu
    obtain ⟨x, hx, ex⟩ := List.mem_map.mp h1
    have := (hmR x (List.mem_filter.mp hx).1).2
    rw [← ex]
    intro e
    rw [List.reverse_eq_nil_iff.mp e] at this
    simp at this; omega
  obtain ⟨Z, hZ⟩ : ∃ Z : List (List Int), vs.map (·.2) = Z := ⟨_, rfl⟩
  rw [hZ] at hvp hvs
  rw [hzr] at hvp
  have hZl : Z.length = Sg n 1 := by
    rw [hvp.length_eq, List.length_map, (hwp.filter stl).length_eq]
    exact still_len n1 n7
  have hvl : vs.length = Z.length := by rw [← hZ, List.length_map]
  have hZ4 : Z.length ≤ 429 := by
    rw [hvp.length_eq, List.length_map]
    exact Nat.le_trans (List.length_filter_le _ _) hR4
  have Y4 := Evl.Ex.new (o := .lst (refs vs)) hp2
  have X3 := Y3.trans Y4
  have hvT2 := hvT.ex Y4
  have hv2 : (upd G3 p2 (.lst (refs vs))) p2 = some (.lst (refs vs)) := upd_same
  generalize upd G3 p2 (.lst (refs vs)) = G4 at X3 hvT2 hv2 ⊢
  replace hw2 := X3 _ _ hw2
  replace hwT2 := hwT2.ex X3
  replace X1 := X1.trans X3
  clear Y4 hvT hp2 hzT hD3 Y3 hD X3
  -- turned back
  refine ⟨_, rfl, p2, rfl, ⟨_, SqL.of hv2⟩, fun D2 hD2 => ?_⟩
  refine lc_list (K := K) (a := p2) (xs := refs vs) (fun j H' => Ex G4 H' ∧ ∃ qs : List (Addr × List Int), H' D2 = some (.lst (refs qs)) ∧ TpR H' qs ∧ qs.length = j ∧ qs.map (·.2) = (Z.take j).map List.reverse) ⟨Evl.Ex.new hD2, [], upd_same, fun u h => (List.not_mem_nil h).elim, rfl, rfl⟩ (fun j H' _ h => SqL.of (h.1 _ _ hv2)) ?_ ?_
  · rintro j v G5 hv ⟨Y5, qs, hD5, hqT, hql, hqr⟩
    have hj : j < vs.length := by
      have := (List.getElem?_eq_some_iff.mp hv).1
      unfold refs at this
      rwa [List.length_map] at this
    have ev : v = .ref vs[j].1 := by
      unfold refs at hv
      rw [List.getElem?_map, List.getElem?_eq_getElem hj] at hv
      exact (Option.some.inj hv).symm
    subst ev
    have hu := Y5 _ _ (hvT2 vs[j] (List.getElem_mem hj))
    have hZj : Z[j]? = some vs[j].2 := by rw [← hZ, List.getElem?_map, List.getElem?_eq_getElem hj]; rfl
    have etk : Z.take (j + 1) = Z.take j ++ [vs[j].2] := by rw [List.take_add_one, hZj]; rfl
    refine ⟨rfl, ?_⟩
    dsimp only [tYes]
    rw [if_pos rfl]
    refine ⟨_, rfl, vs[j].1, _, rfl, SqT.of hu, fun r hr => ?_⟩
    have Y6 := Evl.Ex.new (o := .tup (vs[j].2.map V.int).reverse) hr
    have hD6 := Y6 _ _ hD5
    refine ⟨_, hD6, small1000 (by unfold refs; rw [List.length_map]; omega), Evl.Ex.mut (Y5.trans Y6) hD2, qs ++ [(r, vs[j].2.reverse)], ?_, ?_, by rw [List.length_append, hql]; rfl, ?_⟩
    · rw [upd_same]; unfold refs; rw [List.map_append]; rfl
    · refine TpR.mut (o' := .lst (refs qs)) (fun u hu => ?_) hD6 (fun vs h => by cases h)
      rcases List.mem_append.mp hu with hu | hu
      · exact Y6 _ _ (hqT u hu)
      · rw [List.mem_singleton.mp hu, upd_same, List.map_reverse]
    · rw [etk, List.map_append, List.map_append, hqr]; rfl
  rintro G5 ⟨Y5, qs, hD5, hqT, hql, hqr⟩
  rw [show (refs vs).length = Z.length by unfold refs; rw [List.length_map, hvl]] at hql hqr
  rw [List.take_length] at hqr
  obtain ⟨S, hS⟩ : ∃ S : List (List Int), Z.map List.reverse = S := ⟨_, rfl⟩
  rw [hS] at hqr
  have hSl : S.length = Sg n 1 := by rw [← hS, List.length_map]; exact hZl
  have hS4 : S.length ≤ 429 := by rw [← hS, List.length_map]; exact hZ4
  have hmS : ∀ x ∈ S, Lam x ∧ x.length = n := fun x hx => by
    rw [← hS] at hx
    obtain ⟨z, hz, rfl⟩ := List.mem_map.mp hx
    have h1 := hvp.mem_iff.mp hz
    obtain ⟨y, hy, rfl⟩ := List.mem_map.mp h1
    rw [List.reverse_reverse]
    exact hmR y (List.mem_filter.mp hy).1
  replace hw2 := Y5 _ _ hw2
  replace hwT2 := hwT2.ex Y5
  replace X1 := X1.trans Y5
  clear hv2 hvT2 hD2 Y5
  have hdR : DpAll K G5 (refs ws) (R.map fun l => .tuple (l.map PyData.int)) := dp_of hwT2 hR
  have hdS : DpAll K G5 (refs qs) (S.map fun l => .tuple (l.map PyData.int)) := dp_of hqT hqr
  have sR := sm_rows n7 hR4 hmR
  have sS := sm_rows n7 hS4 hmS
  have sRS := (sm_two sR sS).shw (by decide) (by decide)
  refine ⟨_, rfl, _, rfl, by show 2 ≤ sizeLine; decide, fun kl hkl => ?_⟩
  have Y6 := Evl.Ex.new (o := .lst [.ref p1, .ref D2]) hkl
  have hwT6 := hwT2.ex Y6
  have hqT6 := hqT.ex Y6
  have hw6 := Y6 _ _ hw2
  have hD6 := Y6 _ _ hD5
  refine ⟨_, .list [rowsD2 R, rowsD2 S], rfl, .lst (SqL.of upd_same) (.cons (.lst (SqL.of hw6) (dp_of hwT6 hR)) (.cons (.lst (SqL.of hD6) (dp_of hqT6 hqr)) .nil)), sRS, ?_⟩
  replace X1 := X1.trans Y6
  generalize upd G5 kl (.lst [.ref p1, .ref D2]) = G6 at *
  clear hdR hdS hw2 hD5 hqT hwT2 Y6 hkl
  refine ⟨2, rfl, by decide, by decide, ?_⟩
  have hrl : (refs ws).length = R.length := by unfold refs; rw [List.length_map, hwl]
  have hql2 : (refs qs).length = S.length := by unfold refs; rw [List.length_map, hql, ← hS, List.length_map]
  refine for_range (lo := 0) (n := (2 : Int).toNat) (fun j σ H' => Ex G6 H' ∧ (0 < j → NumR n R ∧ NumS n S) ∧ ∃ y4 : Option V, σ = [some (.int n), some (.ref p1), some (.ref D2), some (.str (PyData.list [rowsD2 R, rowsD2 S]).shown), y4, none, none, none])
    ⟨Evl.Ex.refl _, fun h => absurd h (Nat.lt_irrefl _), _, rfl⟩ ?_ ?_
  · rintro j σ H1 hj ⟨Z1, _, y4, rfl⟩
    have hCw : halN n = wys n 0 := hal_cnt (by omega)
    have hSg : Sg n 1 = Tf n 1 := by unfold Sg; rw [if_neg (by omega), if_pos n1]
    have smN : ∀ k : Nat, k ≤ 429 → Sm (.int (k : Int)) 0 0 := fun k hk => .int (small_log (by omega) (by omega))
    have hw1 := Z1 _ _ hw6
    have hD1 := Z1 _ _ hD6
    have hwT1 := hwT6.ex Z1
    have hqT1 := hqT6.ex Z1
    refine ⟨_, rfl, n, rfl, n1, by omega, fun H2 X2 => ?_⟩
    refine ⟨_, rfl, n, rfl, n1, by omega, fun H3 X3 => ?_⟩
    refine ⟨by show 2 ≤ sizeLine; decide, fun o1 ho1 => ?_⟩
    rw [hCw, ← hSg, ← hRl, ← hSl]
    refine ⟨_, .list [.int (R.length : Nat), .int (S.length : Nat)], rfl, .lst (SqL.of upd_same) (.cons (.int _) (.cons (.int _) .nil)), (sm_two (smN _ hR4) (smN _ hS4)).shw (by decide) (by decide), ?_⟩
    have Z4 := X2.trans (X3.trans (Evl.Ex.new (o := .lst [.int (R.length : Nat), .int (S.length : Nat)]) ho1))
    refine ⟨_, rfl, p1, refs ws, rfl, .inl (SqL.of (Z4 _ _ hw1)), _, rfl, D2, refs qs, rfl, .inl (SqL.of (Z4 _ _ hD1)), ?_⟩
    rw [hrl, hql2]
    refine ⟨by show 2 ≤ sizeLine; decide, fun o2 ho2 => ?_⟩
    refine ⟨_, .list [.int (R.length : Nat), .int (S.length : Nat)], rfl, .lst (SqL.of upd_same) (.cons (.int _) (.cons (.int _) .nil)), (sm_two (smN _ hR4) (smN _ hS4)).shw (by decide) (by decide), ?_⟩
    have Z5 := Z4.trans (Evl.Ex.new (o := .lst [.int (R.length : Nat), .int (S.length : Nat)]) ho2)
    refine ⟨rfl, _, rfl, ?_⟩
    rw [decide_eq_true rfl]
    refine iteF ?_
    have shR := (sR.mono (Nat.le_refl 2) (Nat.le_refl _)).shw (by decide) (by decide)
    have shS := (sS.mono (Nat.le_refl 2) (Nat.le_refl _)).shw (by decide) (by decide)
    -- by their numbers
    refine ⟨_, rfl, p1, refs ws, rfl, .inl (SqL.of (Z5 _ _ hw1)), ?_⟩
    rw [hrl]
    refine ⟨_, rfl, by omega, by omega, fun D3 hD3 => ?_⟩
    refine lc_range (lo := 0) (n := ((R.length : Nat) : Int).toNat) (fun k H' => Ex (upd (upd H3 o1 (.lst [.int (R.length : Nat), .int (S.length : Nat)])) o2 (.lst [.int (R.length : Nat), .int (S.length : Nat)])) H' ∧ ∃ xs2 : List (Addr × List Int), H' D3 = some (.lst (refs xs2)) ∧ xs2.length = k ∧ TpR H' xs2 ∧ ∀ (i : Nat) e, (xs2.map (·.2))[i]? = some e → Rk [] e i ∧ e.length = n) ⟨Evl.Ex.new hD3, [], upd_same, rfl, fun u h => (List.not_mem_nil h).elim, fun i e h => by cases h⟩ ?_ ?_
    · rintro k G7 hk ⟨Y7, xs2, hD7, hl, hT7, hP7⟩
      have hk2 : k < wys n 0 := by omega
      refine ⟨rfl, ?_⟩
      dsimp only [tYes]
      rw [if_pos rfl]
      refine ⟨_, rfl, _, rfl, n, k, congrArg (fun z => [V.int (n : Int), V.int z]) (show (0 : Int) + (k : Int) = ((k : Nat) : Int) by omega), n1, by omega, hk2, fun b G8 xs hb Y8 hpt hrk hxl => ?_⟩
      refine ⟨refs xs2, Y8 _ _ hD7, small1000 (by unfold refs; rw [List.length_map]; omega), Evl.Ex.mut (Y7.trans Y8) hD3, xs2 ++ [(b, xs)], ?_, by rw [List.length_append, hl]; rfl, ?_, fun i e hi => ?_⟩
      · rw [upd_same]; unfold refs; rw [List.map_append]; rfl
      · refine TpR.mut (o' := .lst (refs xs2)) (fun u hu => ?_) (Y8 _ _ hD7) (fun vs h => by cases h)
        rcases List.mem_append.mp hu with hu | hu
        · exact Y8 _ _ (hT7 u hu)
        · rw [List.mem_singleton.mp hu]; exact hpt
      · rw [List.map_append] at hi
        have hml : (xs2.map (·.2)).length = k := by rw [List.length_map, hl]
        rcases Nat.lt_or_ge i k with c | c
        · rw [List.getElem?_append_left (by omega)] at hi
          exact hP7 i e hi
        · rw [List.getElem?_append_right (by omega), hml] at hi
          have e0 : i - k = 0 := by
            have := (List.getElem?_eq_some_iff.mp hi).1
            simp at this; omega
          rw [e0] at hi
          cases hi
          have ek : i = k := by omega
          rw [ek]
          exact ⟨hrk, hxl⟩
    rintro G7 ⟨Y7, xs2, hD7, hl, hT7, hP7⟩
    have hNR0 : NumR n (xs2.map (·.2)) := ⟨by rw [List.length_map, hl]; omega, hP7⟩
    have eR : R = xs2.map (·.2) := rows_num n7 hNR0 hwp hws
    have hNR : NumR n R := by rw [eR]; exact hNR0
    have Z7 := Z5.trans Y7
    refine ⟨_, rowsD2 R, rfl, .lst (SqL.of hD7) (dp_of hT7 eR.symm), shR, ?_⟩
    refine ⟨_, rfl, _, rowsD2 R, rfl, .lst (SqL.of (Z7 _ _ hw1)) (dp_of (hwT1.ex Z7) hR), shR, ?_⟩
    refine ⟨rfl, _, rfl, ?_⟩
    rw [decide_eq_true rfl]
    refine iteF ?_
    -- the still ones
    refine ⟨_, rfl, D2, refs qs, rfl, .inl (SqL.of (Z7 _ _ hD1)), ?_⟩
    rw [hql2]
    refine ⟨_, rfl, by omega, by omega, fun D4 hD4 => ?_⟩
    refine lc_range (lo := 0) (n := ((S.length : Nat) : Int).toNat) (fun k H' => Ex G7 H' ∧ ∃ xs3 : List (Addr × List Int), H' D4 = some (.lst (refs xs3)) ∧ xs3.length = k ∧ TpR H' xs3 ∧ ∀ (i : Nat) e, (xs3.map (·.2))[i]? = some e → St 1 e i ∧ e.length = n) ⟨Evl.Ex.new hD4, [], upd_same, rfl, fun u h => (List.not_mem_nil h).elim, fun i e h => by cases h⟩ ?_ ?_
    · rintro k G8 hk ⟨Y8, xs3, hD8, hl3, hT8, hP8⟩
      have hk2 : k < Sg n 1 := by omega
      refine ⟨rfl, ?_⟩
      dsimp only [tYes]
      rw [if_pos rfl]
      refine ⟨_, rfl, _, rfl, n, k, congrArg (fun z => [V.int (n : Int), V.int z]) (show (0 : Int) + (k : Int) = ((k : Nat) : Int) by omega), n1, by omega, hk2, fun b G9 xs hb Y9 hpt hrk hxl => ?_⟩
      refine ⟨refs xs3, Y9 _ _ hD8, small1000 (by unfold refs; rw [List.length_map]; omega), Evl.Ex.mut (Y8.trans Y9) hD4, xs3 ++ [(b, xs)], ?_, by rw [List.length_append, hl3]; rfl, ?_, fun i e hi => ?_⟩
      · rw [upd_same]; unfold refs; rw [List.map_append]; rfl
      · refine TpR.mut (o' := .lst (refs xs3)) (fun u hu => ?_) (Y9 _ _ hD8) (fun vs h => by cases h)
        rcases List.mem_append.mp hu with hu | hu
        · exact Y9 _ _ (hT8 u hu)
        · rw [List.mem_singleton.mp hu]; exact hpt
      · rw [List.map_append] at hi
        have hml : (xs3.map (·.2)).length = k := by rw [List.length_map, hl3]
        rcases Nat.lt_or_ge i k with c | c
        · rw [List.getElem?_append_left (by omega)] at hi
          exact hP8 i e hi
        · rw [List.getElem?_append_right (by omega), hml] at hi
          have e0 : i - k = 0 := by
            have := (List.getElem?_eq_some_iff.mp hi).1
            simp at this; omega
          rw [e0] at hi
          cases hi
          have ek : i = k := by omega
          rw [ek]
          exact ⟨hrk, hxl⟩
    rintro G8 ⟨Y8, xs3, hD8, hl3, hT8, hP8⟩
    have hNS0 : NumS n (xs3.map (·.2)) := ⟨by rw [List.length_map, hl3]; omega, hP8⟩
    have eS : S = xs3.map (·.2) := by rw [← hS]; exact still_num n1 n7 hNS0 hwp hvp hvs
    have hNS : NumS n S := by rw [eS]; exact hNS0
    have Z8 := Z7.trans Y8
    refine ⟨_, rowsD2 S, rfl, .lst (SqL.of hD8) (dp_of hT8 eS.symm), shS, ?_⟩
    refine ⟨_, rfl, _, rowsD2 S, rfl, .lst (SqL.of (Z8 _ _ hD1)) (dp_of (hqT1.ex Z8) hqr), shS, ?_⟩
    refine ⟨rfl, _, rfl, ?_⟩
    rw [decide_eq_true rfl]
    refine iteF ?_
    exact ⟨Z1.trans Z8, fun _ => ⟨hNR, hNS⟩, _, rfl⟩
  · rintro σ H1 ⟨Z1, hN, y4, rfl⟩
    obtain ⟨hNR, hNS⟩ := hN (by decide)
    have hw1 := Z1 _ _ hw6
    have hD1 := Z1 _ _ hD6
    have hwT1 := hwT6.ex Z1
    have hqT1 := hqT6.ex Z1
    refine ⟨_, rfl, p1, rfl, ⟨_, SqL.of hw1⟩, fun D5 hD5 => ?_⟩
    refine lc_list (K := K) (a := p1) (xs := refs ws) (fun j H' => Ex H1 H' ∧ H' D5 = some (.lst ((nsI j).map V.int))) ⟨Evl.Ex.new hD5, upd_same⟩ (fun j H' _ h => SqL.of (h.1 _ _ hw1)) ?_ ?_
    · rintro j v G7 hv ⟨Y7, hD7⟩
      have hj : j < ws.length := by
        have := (List.getElem?_eq_some_iff.mp hv).1
        omega
      have ev : v = .ref ws[j].1 := by
        unfold refs at hv
        rw [List.getElem?_map, List.getElem?_eq_getElem hj] at hv
        exact (Option.some.inj hv).symm
      subst ev
      have hu := Y7 _ _ (hwT1 ws[j] (List.getElem_mem hj))
      have hRj : R[j]? = some ws[j].2 := by rw [← hR, List.getElem?_map, List.getElem?_eq_getElem hj]; rfl
      obtain ⟨hk, hl⟩ := hNR.2 j _ hRj
      refine ⟨rfl, ?_⟩
      dsimp only [tYes]
      rw [if_pos rfl]
      refine ⟨_, rfl, ws[j].1, ws[j].2, rfl, SqT.of hu, hk.lam, by omega, by omega, fun r G8 hr Y8 => ?_⟩
      have er : r = j := hr.fn (fun t h => (List.not_mem_nil h).elim) hk
      subst er
      refine ⟨_, Y8 _ _ hD7, small1000 (by rw [List.length_map, nsI_len]; omega), Evl.Ex.mut (Y7.trans Y8) hD5, ?_⟩
      rw [upd_same, nsI_succ]
    rintro G7 ⟨Y7, hD7⟩
    rw [hrl] at hD7
    refine ⟨_, rfl, D2, rfl, ⟨_, SqL.of (Y7 _ _ hD1)⟩, fun D6' hD6' => ?_⟩
    refine lc_list (K := K) (a := D2) (xs := refs qs) (fun j H' => Ex G7 H' ∧ H' D6' = some (.lst ((nsI j).map V.int))) ⟨Evl.Ex.new hD6', upd_same⟩ (fun j H' _ h => SqL.of (h.1 _ _ (Y7 _ _ hD1))) ?_ ?_
    · rintro j v G8 hv ⟨Y8, hD8⟩
      have hj : j < qs.length := by
        have := (List.getElem?_eq_some_iff.mp hv).1
        unfold refs at this
        rwa [List.length_map] at this
      have ev : v = .ref qs[j].1 := by
        unfold refs at hv
        rw [List.getElem?_map, List.getElem?_eq_getElem hj] at hv
        exact (Option.some.inj hv).symm
      subst ev
      have hu := Y8 _ _ (Y7 _ _ (hqT1 qs[j] (List.getElem_mem hj)))
      have hSj : S[j]? = some qs[j].2 := by rw [← hqr, List.getElem?_map, List.getElem?_eq_getElem hj]; rfl
      obtain ⟨hk, hl⟩ := hNS.2 j _ hSj
      have hst := hk.still.1
      have UL : Lam qs[j].2 := by rw [← hst]; exact spans_lam _
      refine ⟨rfl, ?_⟩
      dsimp only [tYes]
      rw [if_pos rfl]
      refine ⟨_, rfl, qs[j].1, qs[j].2, rfl, SqT.of hu, rw_lam21 UL (by omega) (by omega), hst, fun r G9 hr Y9 => ?_⟩
      have er : r = j := (hr.order hk (by omega) rfl).2.mp rfl
      subst er
      refine ⟨_, Y9 _ _ hD8, small1000 (by rw [List.length_map, nsI_len]; omega), Evl.Ex.mut (Y8.trans Y9) hD6', ?_⟩
      rw [upd_same, nsI_succ]
    rintro G8 ⟨Y8, hD8⟩
    rw [hql2] at hD8
    refine ⟨by show 2 ≤ sizeLine; decide, fun tl htl => ?_⟩
    have Y9 := Evl.Ex.new (o := .lst [.ref D5, .ref D6']) htl
    have hD79 := (Y8.trans Y9) _ _ hD7
    have hD89 := Y9 _ _ hD8
    have Z9 := Y7.trans (Y8.trans Y9)
    have shT := (sm_two (sm_ns hR4) (sm_ns hS4)).shw (by decide) (by decide)
    refine ⟨_, rfl, _, .list [.list ((nsI R.length).map PyData.int), .list ((nsI S.length).map PyData.int)], rfl, .lst (SqL.of upd_same) (.cons (.lst (SqL.of hD79) (dp_ints _)) (.cons (.lst (SqL.of hD89) (dp_ints _)) .nil)), shT, ?_⟩
    refine ⟨_, rfl, p1, refs ws, rfl, .inl (SqL.of (Z9 _ _ hw1)), ?_⟩
    rw [hrl]
    refine ⟨_, rfl, RgOk.of_le (by decide) (by omega) (by decide) (by omega), fun q1 hq1 => ?_⟩
    have W1 := Evl.Ex.new (o := .lst (rgV 0 ((R.length : Nat) : Int))) hq1
    refine ⟨_, rfl, D2, refs qs, rfl, .inl (SqL.of ((Z9.trans W1) _ _ hD1)), ?_⟩
    rw [hql2]
    refine ⟨_, rfl, RgOk.of_le (by decide) (by omega) (by decide) (by omega), fun q2 hq2 => ?_⟩
    have W2 := Evl.Ex.new (o := .lst (rgV 0 ((S.length : Nat) : Int))) hq2
    refine ⟨by show 2 ≤ sizeLine; decide, fun tr htr => ?_⟩
    have W3 := Evl.Ex.new (o := .lst [.ref q1, .ref q2]) htr
    have dR : ∀ H', DpAll K H' (rgV 0 ((R.length : Nat) : Int)) ((nsI R.length).map PyData.int) := fun H' => by rw [rgV_ns]; exact dp_ints _
    have dS : ∀ H', DpAll K H' (rgV 0 ((S.length : Nat) : Int)) ((nsI S.length).map PyData.int) := fun H' => by rw [rgV_ns]; exact dp_ints _
    have hq1' := (W2.trans W3) _ _ (show (upd _ q1 (HO.lst (rgV 0 ((R.length : Nat) : Int)))) q1 = some _ from upd_same)
    have hq2' := W3 _ _ (show (upd _ q2 (HO.lst (rgV 0 ((S.length : Nat) : Int)))) q2 = some _ from upd_same)
    refine ⟨_, .list [.list ((nsI R.length).map PyData.int), .list ((nsI S.length).map PyData.int)], rfl, .lst (SqL.of upd_same) (.cons (.lst (SqL.of hq1') (dR _)) (.cons (.lst (SqL.of hq2') (dS _)) .nil)), shT, ?_⟩
    have ZW := Z9.trans (W1.trans (W2.trans W3))
    refine ⟨rfl, _, rfl, ?_⟩
    rw [decide_eq_true rfl]
    refine iteT ?_
    refine ⟨_, rfl, _, rfl, by show 2 ≤ sizeLine; decide, fun kr hkr => ?_⟩
    have W4 := Evl.Ex.new (o := .lst [.ref p1, .ref D2]) hkr
    refine ⟨_, .list [rowsD2 R, rowsD2 S], rfl, .lst (SqL.of upd_same) (.cons (.lst (SqL.of ((ZW.trans W4) _ _ hw1)) (dp_of (hwT1.ex (ZW.trans W4)) hR)) (.cons (.lst (SqL.of ((ZW.trans W4) _ _ hD1)) (dp_of (hqT1.ex (ZW.trans W4)) hqr)) .nil)), sRS, ?_⟩
    refine ⟨_, rfl, rfl, ?_⟩
    rw [decide_eq_true rfl]
    exact q _ (X1.trans (Z1.trans (ZW.trans W4)))
end
end K21

set_option Elab.async false
set_option linter.all false
set_option maxRecDepth 100000
set_option maxHeartbeats 1000000
namespace K21
open PySem PySem.Spec
open PyProof.Rows L2 Sx
section
variable {P : Program} {w : World} {K : PySem.W.Frag} {mg : Str → Option Value} {base : Heap}
theorem num_row : Rk [] [1, 1, 2, 1, 2, 1] 53 := by
  have h : Rk [] [1, 1, 2, 1, 2, 1] _ := .cons (k := 0) (by decide) (by decide) (.cons (k := 1) (by decide) (by decide) (.cons (k := 1) (by decide) (by decide) (.cons (k := 2) (by decide) (by decide) (.cons (k := 2) (by decide) (by decide) (.cons (k := 3) (by decide) (by decide) .nil)))))
  exact h
theorem num_still : St 1 [1, 1, 3, 1, 2, 1] 9 := by
  have h11 : St 1 [1, 1] _ := St.cons (l := 1) (r := 1) (inner := []) (pre := [1]) (by decide) (by decide) .nil rfl (St.cons (l := 1) (r := 1) (inner := []) (pre := []) (by decide) (by decide) .nil rfl .nil)
  have h1 : St 1 [1] _ := St.cons (l := 1) (r := 1) (inner := []) (pre := []) (by decide) (by decide) .nil rfl .nil
  have h113 : St 2 [1, 1, 3] _ := St.cons (l := 2) (r := 3) (inner := [1, 1]) (pre := []) (by decide) (by decide) h11 rfl .nil
  have h5 : St 1 [1, 1, 3, 1, 2] _ := St.cons (l := 1) (r := 2) (inner := [1]) (pre := [1, 1, 3]) (by decide) (by decide) h1 rfl h113
  have h6 : St 1 [1, 1, 3, 1, 2, 1] _ := St.cons (l := 1) (r := 1) (inner := []) (pre := [1, 1, 3, 1, 2]) (by decide) (by decide) .nil rfl h5
  have key : ∀ v, St 1 [1, 1, 3, 1, 2, 1] v → v = 9 → St 1 [1, 1, 3, 1, 2, 1] 9 := fun v h e => e ▸ h
  exact key _ h6 (by decide +kernel)
def sp_law (K : PySem.W.Frag) : Sp := fun vs H Q _ => ∃ a, ∃ ns : List Int, vs = [.ref a] ∧ SqL K H a (ns.map V.int) ∧ ns.length ≤ 63 ∧ ∀ H', Q (.bl true) H'
theorem ok_law {f : Addr} {fd : FuncData} (D : DefAt K mg "law" s_law ["script"] f fd) (T : Top mg) (c_spans_number : C8.Cal P w K mg base 7 "spans_number" (sp_spans_number K) []) (c_still_number : C8.Cal P w K mg base 103 "still_number" (sp_still_number K) []) (c__law_size_right : GCal P w K mg base 104 "_law_size_right" (sp__law_size_right K)) :
    GOk P w K mg base 105 f fd ["script"] (sp_law K) := by
  refine g_ok D.fn sc_law (fun vs H Q E h => ?len) fun cdv A outer s H vs Q E hG hr h => ?body
  case len => obtain ⟨a, ns, rfl, _⟩ := h; rfl
  obtain ⟨a, ns, rfl, hS, hz, q⟩ := h
  refine ⟨_, (pss_cons (ps_if (pt_cmpR (op_neD hr.units) (pe_lc (own := [("size_here", 1)]) (g := gName 1) (by rfl) sc_law.nd (pi_range2 (by rfl) T.range (pa_cons pe_int (pa_cons pe_int pa_nil))) (blkOk_by (own := [("size_here", 1)]) (N := ["script", "size_here"]) (sc := defScope s_law) (by decide +kernel)) (fun _ _ _ _ _ => (pg_name (i := 1) sc_law.nd rfl (.inl rfl))) (fun _ _ _ _ _ => (pts_one (pt_not (pt_val (pe_g c__law_size_right hG hr (by decide) (by rfl) (pa_cons (pv 1) pa_nil)))))) (fun _ _ _ _ _ => (pv 1))) (pe_lst pa_nil) (nomark _))
        (pss_one (ps_ret pe_bl))
        pss_nil)
      (pss_one (ps_ret (pe_and (pe_cmpR op_eq (C8.pe_c c_spans_number hr (by decide) (by rfl) (pa_cons (pe_tup (pa_cons pe_int (pa_cons pe_int (pa_cons pe_int (pa_cons pe_int (pa_cons pe_int (pa_cons pe_int pa_nil))))))) pa_nil)) pe_int (nomark _)) (pe_one (pe_cmpR op_eq (C8.pe_c c_still_number hr (by decide) (by rfl) (pa_cons (pe_tup (pa_cons pe_int (pa_cons pe_int (pa_cons pe_int (pa_cons pe_int (pa_cons pe_int (pa_cons pe_int pa_nil))))))) pa_nil)) pe_int (nomark _))))))), ?_⟩
  refine ⟨1, 8, rfl, by decide, ?_⟩
  refine fun D hD => ?_
  refine lc_range (lo := 1) (n := ((8 : Int) - 1).toNat) (fun i H' => Ex H H' ∧ H' D = some (.lst [])) ⟨Evl.Ex.new hD, upd_same⟩ ?_ ?_
  · rintro i H1 hi ⟨X1, hD1⟩
    have hi6 : i < 7 := hi
    refine ⟨rfl, _, rfl, 1 + i, ?_, by omega, by omega, fun H2 X2 => ⟨true, rfl, ?_⟩⟩
    · show [V.int (1 + (i : Int))] = [V.int ((1 + i : Nat) : Int)]
      rw [show (1 : Int) + (i : Int) = ((1 + i : Nat) : Int) by omega]
    refine iteF ⟨X1.trans X2, X2 _ _ hD1⟩
  rintro H1 ⟨X1, hD1⟩
  refine ⟨Nat.zero_le _, fun o ho => ⟨.list [], .list [], .lst (SqL.of (Evl.Ex.new ho _ _ hD1)) .nil, .lst (SqL.of upd_same) .nil, by decide, by decide, _, rfl, ?_⟩⟩
  have ee : (!PyData.eqv (.list []) (.list [])) = false := by decide
  rw [ee]
  refine iteF ?_
  have X2 := X1.trans (Evl.Ex.new (o := .lst []) ho)
  generalize upd H1 o (.lst []) = H2 at X2 ⊢
  refine ⟨by show 6 ≤ sizeLine; decide, fun t1 ht1 => ?_⟩
  have L1 : Lam [1, 1, 2, 1, 2, 1] := num_row.lam
  have L2 : Lam [1, 1, 3, 1, 2, 1] := by rw [← num_still.still.1]; exact spans_lam _
  refine ⟨t1, [1, 1, 2, 1, 2, 1], rfl, SqT.of upd_same, L1, by decide, by decide, fun r H3 hr X3 => ?_⟩
  have er : r = 53 := hr.fn (fun t h => (List.not_mem_nil h).elim) num_row
  subst er
  refine ⟨rfl, _, rfl, ?_⟩
  rw [decide_eq_true (show V.int ((53 : Nat) : Int) = V.int 53 from rfl)]
  refine iteT ?_
  refine ⟨by show 6 ≤ sizeLine; decide, fun t2 ht2 => ?_⟩
  refine ⟨t2, [1, 1, 3, 1, 2, 1], rfl, SqT.of upd_same, rw_lam21 L2 (by decide) (by decide), num_still.still.1, fun r H4 hr X4 => ?_⟩
  have er : r = 9 := (hr.order num_still (by decide) rfl).2.mp rfl
  subst er
  refine ⟨rfl, ?_⟩
  rw [decide_eq_true (show V.int ((9 : Nat) : Int) = V.int 9 from rfl)]
  exact q _
end
section
theorem all_mk {l : PySem.W.OpenLaw} {w : World} {K : PySem.W.Frag} {h : Heap} {mg : Str → Option Value} {fa f0 f1 f2 f3 f4 f5 f6 f7 f8 f9 f10 f11 f12 f13 f14 f15 f16 f17 f18 f19 f20 f21 f22 f23 f24 f25 f26 : Addr}
    (X : K.In h) (G : h.Ns mainGlobals mg) (hfa : mg "law" = some (.ref fa))
    {od0 an0 od1 an1 od2 an2 od3 an3 od4 an4 od5 an5 od6 an6 od7 an7 od8 an8 od9 an9 od10 an10 od11 an11 od12 an12 od13 an13 od14 an14 od15 an15 od16 an16 od17 an17 od18 an18 od19 an19 od20 an20 od21 an21 od22 an22 od23 an23 od24 an24 od25 an25 od26 an26 : Option Addr}
    {sl0 sl1 sl2 sl3 sl4 sl5 sl6 sl7 sl8 sl9 sl10 sl11 sl12 sl13 sl14 sl15 sl16 sl17 sl18 sl19 sl20 sl21 sl22 sl23 sl24 sl25 sl26 : Array (Option Value)}
    {oc0 kV0 dc0 pm0 cd0 ct0 oc1 kV1 dc1 pm1 cd1 ct1 oc2 kV2 dc2 pm2 cd2 ct2 oc3 kV3 dc3 pm3 cd3 ct3 oc4 kV4 dc4 pm4 cd4 ct4 oc5 kV5 dc5 pm5 cd5 ct5 oc6 kV6 dc6 pm6 cd6 ct6 oc7 kV7 dc7 pm7 cd7 ct7 oc8 kV8 dc8 pm8 cd8 ct8 oc9 kV9 dc9 pm9 cd9 ct9 oc10 kV10 dc10 pm10 cd10 ct10 oc11 kV11 dc11 pm11 cd11 ct11 oc12 kV12 dc12 pm12 cd12 ct12 oc13 kV13 dc13 pm13 cd13 ct13 oc14 kV14 dc14 pm14 cd14 ct14 oc15 kV15 dc15 pm15 cd15 ct15 oc16 kV16 dc16 pm16 cd16 ct16 oc17 kV17 dc17 pm17 cd17 ct17 oc18 kV18 dc18 pm18 cd18 ct18 oc19 kV19 dc19 pm19 cd19 ct19 oc20 kV20 dc20 pm20 cd20 ct20 oc21 kV21 dc21 pm21 cd21 ct21 oc22 kV22 dc22 pm22 cd22 ct22 oc23 kV23 dc23 pm23 cd23 ct23 oc24 kV24 dc24 pm24 cd24 ct24 oc25 kV25 dc25 pm25 cd25 ct25 oc26 kV26 dc26 pm26 cd26 ct26 : Value}
    {t0 t1 : Tok}
    (a0 : PySem.W.nsIn K mainGlobals "is_int" = some (some (.ref f0)))
    (l0 : K.lookup f0 = some ⟨oc0, od0, .func (PySem.W.fnOf "is_int" "is_int" (defArgs s_is_int) (defBody s_is_int) (defScope s_is_int) .none kV0 dc0 pm0 an0 cd0 ct0), sl0⟩)
    (c0 : PySem.W.codeIn K cd0 "is_int" = true) (k0 : PySem.W.keepIn K (.ref f0) = true)
    (a1 : PySem.W.nsIn K mainGlobals "is_whole" = some (some (.ref f1)))
    (l1 : K.lookup f1 = some ⟨oc1, od1, .func (PySem.W.fnOf "is_whole" "is_whole" (defArgs s_is_whole) (defBody s_is_whole) (defScope s_is_whole) .none kV1 dc1 pm1 an1 cd1 ct1), sl1⟩)
    (c1 : PySem.W.codeIn K cd1 "is_whole" = true) (k1 : PySem.W.keepIn K (.ref f1) = true)
    (a2 : PySem.W.nsIn K mainGlobals "is_entry" = some (some (.ref f2)))
    (l2 : K.lookup f2 = some ⟨oc2, od2, .func (PySem.W.fnOf "is_entry" "is_entry" (defArgs s_is_entry) (defBody s_is_entry) (defScope s_is_entry) .none kV2 dc2 pm2 an2 cd2 ct2), sl2⟩)
    (c2 : PySem.W.codeIn K cd2 "is_entry" = true) (k2 : PySem.W.keepIn K (.ref f2) = true)
    (a3 : PySem.W.nsIn K mainGlobals "check_size" = some (some (.ref f3)))
    (l3 : K.lookup f3 = some ⟨oc3, od3, .func (PySem.W.fnOf "check_size" "check_size" (defArgs s_check_size) (defBody s_check_size) (defScope s_check_size) .none kV3 dc3 pm3 an3 cd3 ct3), sl3⟩)
    (c3 : PySem.W.codeIn K cd3 "check_size" = true) (k3 : PySem.W.keepIn K (.ref f3) = true)
    (a4 : PySem.W.nsIn K mainGlobals "check_number" = some (some (.ref f4)))
    (l4 : K.lookup f4 = some ⟨oc4, od4, .func (PySem.W.fnOf "check_number" "check_number" (defArgs s_check_number) (defBody s_check_number) (defScope s_check_number) .none kV4 dc4 pm4 an4 cd4 ct4), sl4⟩)
    (c4 : PySem.W.codeIn K cd4 "check_number" = true) (k4 : PySem.W.keepIn K (.ref f4) = true)
    (a5 : PySem.W.nsIn K mainGlobals "is_row" = some (some (.ref f5)))
    (l5 : K.lookup f5 = some ⟨oc5, od5, .func (PySem.W.fnOf "is_row" "is_row" (defArgs s_is_row) (defBody s_is_row) (defScope s_is_row) .none kV5 dc5 pm5 an5 cd5 ct5), sl5⟩)
    (c5 : PySem.W.codeIn K cd5 "is_row" = true) (k5 : PySem.W.keepIn K (.ref f5) = true)
    (a6 : PySem.W.nsIn K mainGlobals "check_row" = some (some (.ref f6)))
    (l6 : K.lookup f6 = some ⟨oc6, od6, .func (PySem.W.fnOf "check_row" "check_row" (defArgs s_check_row) (defBody s_check_row) (defScope s_check_row) .none kV6 dc6 pm6 an6 cd6 ct6), sl6⟩)
    (c6 : PySem.W.codeIn K cd6 "check_row" = true) (k6 : PySem.W.keepIn K (.ref f6) = true)
    (a7 : PySem.W.nsIn K mainGlobals "all_spans" = some (some (.ref f7)))
    (l7 : K.lookup f7 = some ⟨oc7, od7, .func (PySem.W.fnOf "all_spans" "all_spans" (defArgs s_all_spans) (defBody s_all_spans) (defScope s_all_spans) .none kV7 dc7 pm7 an7 cd7 ct7), sl7⟩)
    (c7 : PySem.W.codeIn K cd7 "all_spans" = true) (k7 : PySem.W.keepIn K (.ref f7) = true)
    (a8 : PySem.W.nsIn K mainGlobals "is_spans" = some (some (.ref f8)))
    (l8 : K.lookup f8 = some ⟨oc8, od8, .func (PySem.W.fnOf "is_spans" "is_spans" (defArgs s_is_spans) (defBody s_is_spans) (defScope s_is_spans) .none kV8 dc8 pm8 an8 cd8 ct8), sl8⟩)
    (c8 : PySem.W.codeIn K cd8 "is_spans" = true) (k8 : PySem.W.keepIn K (.ref f8) = true)
    (a9 : PySem.W.nsIn K mainGlobals "covers_whole_trees" = some (some (.ref f9)))
    (l9 : K.lookup f9 = some ⟨oc9, od9, .func (PySem.W.fnOf "covers_whole_trees" "covers_whole_trees" (defArgs s_covers_whole_trees) (defBody s_covers_whole_trees) (defScope s_covers_whole_trees) .none kV9 dc9 pm9 an9 cd9 ct9), sl9⟩)
    (c9 : PySem.W.codeIn K cd9 "covers_whole_trees" = true) (k9 : PySem.W.keepIn K (.ref f9) = true)
    (a10 : PySem.W.nsIn K mainGlobals "check_spans" = some (some (.ref f10)))
    (l10 : K.lookup f10 = some ⟨oc10, od10, .func (PySem.W.fnOf "check_spans" "check_spans" (defArgs s_check_spans) (defBody s_check_spans) (defScope s_check_spans) .none kV10 dc10 pm10 an10 cd10 ct10), sl10⟩)
    (c10 : PySem.W.codeIn K cd10 "check_spans" = true) (k10 : PySem.W.keepIn K (.ref f10) = true)
    (a11 : PySem.W.nsIn K mainGlobals "is_still" = some (some (.ref f11)))
    (l11 : K.lookup f11 = some ⟨oc11, od11, .func (PySem.W.fnOf "is_still" "is_still" (defArgs s_is_still) (defBody s_is_still) (defScope s_is_still) .none kV11 dc11 pm11 an11 cd11 ct11), sl11⟩)
    (c11 : PySem.W.codeIn K cd11 "is_still" = true) (k11 : PySem.W.keepIn K (.ref f11) = true)
    (a12 : PySem.W.nsIn K mainGlobals "count_spans" = some (some (.ref f12)))
    (l12 : K.lookup f12 = some ⟨oc12, od12, .func (PySem.W.fnOf "count_spans" "count_spans" (defArgs s_count_spans) (defBody s_count_spans) (defScope s_count_spans) .none kV12 dc12 pm12 an12 cd12 ct12), sl12⟩)
    (c12 : PySem.W.codeIn K cd12 "count_spans" = true) (k12 : PySem.W.keepIn K (.ref f12) = true)
    (a13 : PySem.W.nsIn K mainGlobals "nth_spans" = some (some (.ref f13)))
    (l13 : K.lookup f13 = some ⟨oc13, od13, .func (PySem.W.fnOf "nth_spans" "nth_spans" (defArgs s_nth_spans) (defBody s_nth_spans) (defScope s_nth_spans) .none kV13 dc13 pm13 an13 cd13 ct13), sl13⟩)
    (c13 : PySem.W.codeIn K cd13 "nth_spans" = true) (k13 : PySem.W.keepIn K (.ref f13) = true)
    (a14 : PySem.W.nsIn K mainGlobals "spans_number" = some (some (.ref f14)))
    (l14 : K.lookup f14 = some ⟨oc14, od14, .func (PySem.W.fnOf "spans_number" "spans_number" (defArgs s_spans_number) (defBody s_spans_number) (defScope s_spans_number) .none kV14 dc14 pm14 an14 cd14 ct14), sl14⟩)
    (c14 : PySem.W.codeIn K cd14 "spans_number" = true) (k14 : PySem.W.keepIn K (.ref f14) = true)
    (a15 : PySem.W.nsIn K mainGlobals "spans_counts" = some (some (.ref f15)))
    (l15 : K.lookup f15 = some ⟨oc15, od15, .func (PySem.W.fnOf "spans_counts" "spans_counts" (defArgs s_spans_counts) (defBody s_spans_counts) (defScope s_spans_counts) .none kV15 dc15 pm15 an15 cd15 ct15), sl15⟩)
    (c15 : PySem.W.codeIn K cd15 "spans_counts" = true) (k15 : PySem.W.keepIn K (.ref f15) = true)
    (a16 : PySem.W.nsIn K mainGlobals "count_still" = some (some (.ref f16)))
    (l16 : K.lookup f16 = some ⟨oc16, od16, .func (PySem.W.fnOf "count_still" "count_still" (defArgs s_count_still) (defBody s_count_still) (defScope s_count_still) .none kV16 dc16 pm16 an16 cd16 ct16), sl16⟩)
    (c16 : PySem.W.codeIn K cd16 "count_still" = true) (k16 : PySem.W.keepIn K (.ref f16) = true)
    (a17 : PySem.W.nsIn K mainGlobals "nth_still" = some (some (.ref f17)))
    (l17 : K.lookup f17 = some ⟨oc17, od17, .func (PySem.W.fnOf "nth_still" "nth_still" (defArgs s_nth_still) (defBody s_nth_still) (defScope s_nth_still) .none kV17 dc17 pm17 an17 cd17 ct17), sl17⟩)
    (c17 : PySem.W.codeIn K cd17 "nth_still" = true) (k17 : PySem.W.keepIn K (.ref f17) = true)
    (a18 : PySem.W.nsIn K mainGlobals "still_entries" = some (some (.ref f18)))
    (l18 : K.lookup f18 = some ⟨oc18, od18, .func (PySem.W.fnOf "still_entries" "still_entries" (defArgs s_still_entries) (defBody s_still_entries) (defScope s_still_entries) .none kV18 dc18 pm18 an18 cd18 ct18), sl18⟩)
    (c18 : PySem.W.codeIn K cd18 "still_entries" = true) (k18 : PySem.W.keepIn K (.ref f18) = true)
    (a19 : PySem.W.nsIn K mainGlobals "still_number" = some (some (.ref f19)))
    (l19 : K.lookup f19 = some ⟨oc19, od19, .func (PySem.W.fnOf "still_number" "still_number" (defArgs s_still_number) (defBody s_still_number) (defScope s_still_number) .none kV19 dc19 pm19 an19 cd19 ct19), sl19⟩)
    (c19 : PySem.W.codeIn K cd19 "still_number" = true) (k19 : PySem.W.keepIn K (.ref f19) = true)
    (a20 : PySem.W.nsIn K mainGlobals "number_in" = some (some (.ref f20)))
    (l20 : K.lookup f20 = some ⟨oc20, od20, .func (PySem.W.fnOf "number_in" "number_in" (defArgs s_number_in) (defBody s_number_in) (defScope s_number_in) .none kV20 dc20 pm20 an20 cd20 ct20), sl20⟩)
    (c20 : PySem.W.codeIn K cd20 "number_in" = true) (k20 : PySem.W.keepIn K (.ref f20) = true)
    (a21 : PySem.W.nsIn K mainGlobals "still_counts" = some (some (.ref f21)))
    (l21 : K.lookup f21 = some ⟨oc21, od21, .func (PySem.W.fnOf "still_counts" "still_counts" (defArgs s_still_counts) (defBody s_still_counts) (defScope s_still_counts) .none kV21 dc21 pm21 an21 cd21 ct21), sl21⟩)
    (c21 : PySem.W.codeIn K cd21 "still_counts" = true) (k21 : PySem.W.keepIn K (.ref f21) = true)
    (a22 : PySem.W.nsIn K mainGlobals "_law_spans" = some (some (.ref f22)))
    (l22 : K.lookup f22 = some ⟨oc22, od22, .func (PySem.W.fnOf "_law_spans" "_law_spans" (defArgs s__law_spans) (defBody s__law_spans) (defScope s__law_spans) .none kV22 dc22 pm22 an22 cd22 ct22), sl22⟩)
    (c22 : PySem.W.codeIn K cd22 "_law_spans" = true) (k22 : PySem.W.keepIn K (.ref f22) = true)
    (a23 : PySem.W.nsIn K mainGlobals "_law_all" = some (some (.ref f23)))
    (l23 : K.lookup f23 = some ⟨oc23, od23, .func (PySem.W.fnOf "_law_all" "_law_all" (defArgs s__law_all) (defBody s__law_all) (defScope s__law_all) .none kV23 dc23 pm23 an23 cd23 ct23), sl23⟩)
    (c23 : PySem.W.codeIn K cd23 "_law_all" = true) (k23 : PySem.W.keepIn K (.ref f23) = true)
    (a24 : PySem.W.nsIn K mainGlobals "_law_still" = some (some (.ref f24)))
    (l24 : K.lookup f24 = some ⟨oc24, od24, .func (PySem.W.fnOf "_law_still" "_law_still" (defArgs s__law_still) (defBody s__law_still) (defScope s__law_still) .none kV24 dc24 pm24 an24 cd24 ct24), sl24⟩)
    (c24 : PySem.W.codeIn K cd24 "_law_still" = true) (k24 : PySem.W.keepIn K (.ref f24) = true)
    (a25 : PySem.W.nsIn K mainGlobals "_law_size_right" = some (some (.ref f25)))
    (l25 : K.lookup f25 = some ⟨oc25, od25, .func (PySem.W.fnOf "_law_size_right" "_law_size_right" (defArgs s__law_size_right) (defBody s__law_size_right) (defScope s__law_size_right) .none kV25 dc25 pm25 an25 cd25 ct25), sl25⟩)
    (c25 : PySem.W.codeIn K cd25 "_law_size_right" = true) (k25 : PySem.W.keepIn K (.ref f25) = true)
    (a26 : PySem.W.nsIn K mainGlobals "law" = some (some (.ref f26)))
    (l26 : K.lookup f26 = some ⟨oc26, od26, .func (PySem.W.fnOf "law" "law" (defArgs s_law) (defBody s_law) (defScope s_law) .none kV26 dc26 pm26 an26 cd26 ct26), sl26⟩)
    (c26 : PySem.W.codeIn K cd26 "law" = true) (k26 : PySem.W.keepIn K (.ref f26) = true)
    (kc0 : PySem.W.nsIn K mainGlobals "MOST_ENTRIES" = some (some (.int 100 t0)))
    (kc1 : PySem.W.nsIn K mainGlobals "GREATEST_ENTRY" = some (some (.int 1000000000000000000000000000000 t1)))
    (z0 : PySem.W.nsIn K mainGlobals "isinstance" = some none)
    (z1 : PySem.W.nsIn K mainGlobals "int" = some none)
    (z2 : PySem.W.nsIn K mainGlobals "bool" = some none)
    (z3 : PySem.W.nsIn K mainGlobals "all" = some none)
    (z4 : PySem.W.nsIn K mainGlobals "tuple" = some none)
    (z5 : PySem.W.nsIn K mainGlobals "len" = some none)
    (z6 : PySem.W.nsIn K mainGlobals "enumerate" = some none)
    (z7 : PySem.W.nsIn K mainGlobals "range" = some none)
    (z8 : PySem.W.nsIn K mainGlobals "divmod" = some none)
    (z9 : PySem.W.nsIn K mainGlobals "sum" = some none)
    (z10 : PySem.W.nsIn K mainGlobals "sorted" = some none)
    (z11 : PySem.W.nsIn K mainGlobals "repr" = some none)
    (z12 : PySem.W.nsIn K mainGlobals "list" = some none)
    : ∃ fd : FuncData, (∀ (s : Shared) (v : Value), BindsTo s fd ⟨[v], []⟩ [("script", v)]) ∧ ∀ base : Heap, K.In base → base.Ns mainGlobals mg →
      GOk l.prog w K mg base 105 fa fd ["script"] (sp_law K) := by
  have e := hfa.symm.trans (PySem.W.mg_of X G a26)
  cases e
  have T : Top mg := ⟨PySem.W.mg_none_of X G z0, PySem.W.mg_none_of X G z1, PySem.W.mg_none_of X G z2, PySem.W.mg_none_of X G z3, PySem.W.mg_none_of X G z4, PySem.W.mg_none_of X G z5, PySem.W.mg_none_of X G z6, PySem.W.mg_none_of X G z7, PySem.W.mg_none_of X G z8, PySem.W.mg_none_of X G z9, PySem.W.mg_none_of X G z10, PySem.W.mg_none_of X G z11, PySem.W.mg_none_of X G z12, ⟨_, PySem.W.mg_of X G kc0, _, rfl⟩, ⟨_, PySem.W.mg_of X G kc1, _, rfl⟩⟩
  have D0 : DefAt K mg "is_int" s_is_int ["value"] _ _ := ⟨fun_mk (st := s_is_int) l0 c0 k0, PySem.W.mg_of X G a0,
    (fun_mk (st := s_is_int) l0 c0 k0).binds fun _ _ _ _ _ _ us hl => match us, hl with | [_], _ => rfl⟩
  have D1 : DefAt K mg "is_whole" s_is_whole ["value", "low", "high"] _ _ := ⟨fun_mk (st := s_is_whole) l1 c1 k1, PySem.W.mg_of X G a1,
    (fun_mk (st := s_is_whole) l1 c1 k1).binds fun _ _ _ _ _ _ us hl => match us, hl with | [_, _, _], _ => rfl⟩
  have D2 : DefAt K mg "is_entry" s_is_entry ["value"] _ _ := ⟨fun_mk (st := s_is_entry) l2 c2 k2, PySem.W.mg_of X G a2,
    (fun_mk (st := s_is_entry) l2 c2 k2).binds fun _ _ _ _ _ _ us hl => match us, hl with | [_], _ => rfl⟩
  have D3 : DefAt K mg "check_size" s_check_size ["size"] _ _ := ⟨fun_mk (st := s_check_size) l3 c3 k3, PySem.W.mg_of X G a3,
    (fun_mk (st := s_check_size) l3 c3 k3).binds fun _ _ _ _ _ _ us hl => match us, hl with | [_], _ => rfl⟩
  have D4 : DefAt K mg "check_number" s_check_number ["number", "count"] _ _ := ⟨fun_mk (st := s_check_number) l4 c4 k4, PySem.W.mg_of X G a4,
    (fun_mk (st := s_check_number) l4 c4 k4).binds fun _ _ _ _ _ _ us hl => match us, hl with | [_, _], _ => rfl⟩
  have D5 : DefAt K mg "is_row" s_is_row ["value"] _ _ := ⟨fun_mk (st := s_is_row) l5 c5 k5, PySem.W.mg_of X G a5,
    (fun_mk (st := s_is_row) l5 c5 k5).binds fun _ _ _ _ _ _ us hl => match us, hl with | [_], _ => rfl⟩
  have D6 : DefAt K mg "check_row" s_check_row ["row"] _ _ := ⟨fun_mk (st := s_check_row) l6 c6 k6, PySem.W.mg_of X G a6,
    (fun_mk (st := s_check_row) l6 c6 k6).binds fun _ _ _ _ _ _ us hl => match us, hl with | [_], _ => rfl⟩
  have D7 : DefAt K mg "all_spans" s_all_spans ["row"] _ _ := ⟨fun_mk (st := s_all_spans) l7 c7 k7, PySem.W.mg_of X G a7,
    (fun_mk (st := s_all_spans) l7 c7 k7).binds fun _ _ _ _ _ _ us hl => match us, hl with | [_], _ => rfl⟩
  have D8 : DefAt K mg "is_spans" s_is_spans ["value"] _ _ := ⟨fun_mk (st := s_is_spans) l8 c8 k8, PySem.W.mg_of X G a8,
    (fun_mk (st := s_is_spans) l8 c8 k8).binds fun _ _ _ _ _ _ us hl => match us, hl with | [_], _ => rfl⟩
  have D9 : DefAt K mg "covers_whole_trees" s_covers_whole_trees ["row", "place"] _ _ := ⟨fun_mk (st := s_covers_whole_trees) l9 c9 k9, PySem.W.mg_of X G a9,
    (fun_mk (st := s_covers_whole_trees) l9 c9 k9).binds fun _ _ _ _ _ _ us hl => match us, hl with | [_, _], _ => rfl⟩
  have D10 : DefAt K mg "check_spans" s_check_spans ["spans"] _ _ := ⟨fun_mk (st := s_check_spans) l10 c10 k10, PySem.W.mg_of X G a10,
    (fun_mk (st := s_check_spans) l10 c10 k10).binds fun _ _ _ _ _ _ us hl => match us, hl with | [_], _ => rfl⟩
  have D11 : DefAt K mg "is_still" s_is_still ["row"] _ _ := ⟨fun_mk (st := s_is_still) l11 c11 k11, PySem.W.mg_of X G a11,
    (fun_mk (st := s_is_still) l11 c11 k11).binds fun _ _ _ _ _ _ us hl => match us, hl with | [_], _ => rfl⟩
  have D12 : DefAt K mg "count_spans" s_count_spans ["size"] _ _ := ⟨fun_mk (st := s_count_spans) l12 c12 k12, PySem.W.mg_of X G a12,
    (fun_mk (st := s_count_spans) l12 c12 k12).binds fun _ _ _ _ _ _ us hl => match us, hl with | [_], _ => rfl⟩
  have D13 : DefAt K mg "nth_spans" s_nth_spans ["size", "number"] _ _ := ⟨fun_mk (st := s_nth_spans) l13 c13 k13, PySem.W.mg_of X G a13,
    (fun_mk (st := s_nth_spans) l13 c13 k13).binds fun _ _ _ _ _ _ us hl => match us, hl with | [_, _], _ => rfl⟩
  have D14 : DefAt K mg "spans_number" s_spans_number ["spans"] _ _ := ⟨fun_mk (st := s_spans_number) l14 c14 k14, PySem.W.mg_of X G a14,
    (fun_mk (st := s_spans_number) l14 c14 k14).binds fun _ _ _ _ _ _ us hl => match us, hl with | [_], _ => rfl⟩
  have D15 : DefAt K mg "spans_counts" s_spans_counts ["size"] _ _ := ⟨fun_mk (st := s_spans_counts) l15 c15 k15, PySem.W.mg_of X G a15,
    (fun_mk (st := s_spans_counts) l15 c15 k15).binds fun _ _ _ _ _ _ us hl => match us, hl with | [_], _ => rfl⟩
  have D16 : DefAt K mg "count_still" s_count_still ["size"] _ _ := ⟨fun_mk (st := s_count_still) l16 c16 k16, PySem.W.mg_of X G a16,
    (fun_mk (st := s_count_still) l16 c16 k16).binds fun _ _ _ _ _ _ us hl => match us, hl with | [_], _ => rfl⟩
  have D17 : DefAt K mg "nth_still" s_nth_still ["size", "number"] _ _ := ⟨fun_mk (st := s_nth_still) l17 c17 k17, PySem.W.mg_of X G a17,
    (fun_mk (st := s_nth_still) l17 c17 k17).binds fun _ _ _ _ _ _ us hl => match us, hl with | [_, _], _ => rfl⟩
  have D18 : DefAt K mg "still_entries" s_still_entries ["counts", "size", "number"] _ _ := ⟨fun_mk (st := s_still_entries) l18 c18 k18, PySem.W.mg_of X G a18,
    (fun_mk (st := s_still_entries) l18 c18 k18).binds fun _ _ _ _ _ _ us hl => match us, hl with | [_, _, _], _ => rfl⟩
  have D19 : DefAt K mg "still_number" s_still_number ["row"] _ _ := ⟨fun_mk (st := s_still_number) l19 c19 k19, PySem.W.mg_of X G a19,
    (fun_mk (st := s_still_number) l19 c19 k19).binds fun _ _ _ _ _ _ us hl => match us, hl with | [_], _ => rfl⟩
  have D20 : DefAt K mg "number_in" s_number_in ["counts", "row"] _ _ := ⟨fun_mk (st := s_number_in) l20 c20 k20, PySem.W.mg_of X G a20,
    (fun_mk (st := s_number_in) l20 c20 k20).binds fun _ _ _ _ _ _ us hl => match us, hl with | [_, _], _ => rfl⟩
  have D21 : DefAt K mg "still_counts" s_still_counts ["size"] _ _ := ⟨fun_mk (st := s_still_counts) l21 c21 k21, PySem.W.mg_of X G a21,
    (fun_mk (st := s_still_counts) l21 c21 k21).binds fun _ _ _ _ _ _ us hl => match us, hl with | [_], _ => rfl⟩
  have D22 : DefAt K mg "_law_spans" s__law_spans ["row"] _ _ := ⟨fun_mk (st := s__law_spans) l22 c22 k22, PySem.W.mg_of X G a22,
    (fun_mk (st := s__law_spans) l22 c22 k22).binds fun _ _ _ _ _ _ us hl => match us, hl with | [_], _ => rfl⟩
  have D23 : DefAt K mg "_law_all" s__law_all ["size_here"] _ _ := ⟨fun_mk (st := s__law_all) l23 c23 k23, PySem.W.mg_of X G a23,
    (fun_mk (st := s__law_all) l23 c23 k23).binds fun _ _ _ _ _ _ us hl => match us, hl with | [_], _ => rfl⟩
  have D24 : DefAt K mg "_law_still" s__law_still ["spans_here"] _ _ := ⟨fun_mk (st := s__law_still) l24 c24 k24, PySem.W.mg_of X G a24,
    (fun_mk (st := s__law_still) l24 c24 k24).binds fun _ _ _ _ _ _ us hl => match us, hl with | [_], _ => rfl⟩
  have D25 : DefAt K mg "_law_size_right" s__law_size_right ["size_here"] _ _ := ⟨fun_mk (st := s__law_size_right) l25 c25 k25, PySem.W.mg_of X G a25,
    (fun_mk (st := s__law_size_right) l25 c25 k25).binds fun _ _ _ _ _ _ us hl => match us, hl with | [_], _ => rfl⟩
  have D26 : DefAt K mg "law" s_law ["script"] _ _ := ⟨fun_mk (st := s_law) l26 c26 k26, PySem.W.mg_of X G a26,
    (fun_mk (st := s_law) l26 c26 k26).binds fun _ _ _ _ _ _ us hl => match us, hl with | [_], _ => rfl⟩
  refine ⟨(PySem.W.fnOf "law" "law" (defArgs s_law) (defBody s_law) (defScope s_law) .none kV26 dc26 pm26 an26 cd26 ct26), fun s v => .of_eq rfl, fun base _ _ => ?_⟩
  have c_is_int := ok_is_int (P := l.prog) (w := w) (base := base) D0 T
  have c_all_spans := ok_all_spans (P := l.prog) (w := w) (base := base) D7 T
  have c_covers_whole_trees := ok_covers_whole_trees (P := l.prog) (w := w) (base := base) D9 T
  have c_spans_counts := ok_spans_counts (P := l.prog) (w := w) (base := base) D15 T
  have c_still_counts := ok_still_counts (P := l.prog) (w := w) (base := base) D21 T
  have c__law_spans := ok__law_spans (P := l.prog) (w := w) (base := base) D22 T
  have c__law_all := ok__law_all (P := l.prog) (w := w) (base := base) D23 T
  have c_is_whole := ok_is_whole (P := l.prog) (w := w) (base := base) D1 T c_is_int
  have c__law_still := ok__law_still (P := l.prog) (w := w) (base := base) D24 T c__law_spans
  have c_is_entry := ok_is_entry (P := l.prog) (w := w) (base := base) D2 T c_is_whole
  have c_check_size := ok_check_size (P := l.prog) (w := w) (base := base) D3 T c_is_whole
  have c_check_number := ok_check_number (P := l.prog) (w := w) (base := base) D4 T c_is_whole
  have c_is_row := ok_is_row (P := l.prog) (w := w) (base := base) D5 T c_is_entry
  have c_count_spans := ok_count_spans (P := l.prog) (w := w) (base := base) D12 T c_check_size c_spans_counts
  have c_nth_spans := ok_nth_spans (P := l.prog) (w := w) (base := base) D13 T c_check_size c_spans_counts c_check_number
  have c_count_still := ok_count_still (P := l.prog) (w := w) (base := base) D16 T c_check_size c_still_counts
  have c_check_row := ok_check_row (P := l.prog) (w := w) (base := base) D6 T c_is_row
  have c_is_spans := ok_is_spans (P := l.prog) (w := w) (base := base) D8 T c_is_row c_covers_whole_trees
  have c_check_spans := ok_check_spans (P := l.prog) (w := w) (base := base) D10 T c_is_spans
  have c_is_still := ok_is_still (P := l.prog) (w := w) (base := base) D11 T c_check_row c_all_spans
  have c_spans_number := ok_spans_number (P := l.prog) (w := w) (base := base) D14 T c_check_spans c_spans_counts
  have c_still_entries := ok_still_entries (P := l.prog) (w := w) (base := base) D18 T
  have c_number_in := ok_number_in (P := l.prog) (w := w) (base := base) D20 T
  have c_nth_still := ok_nth_still (P := l.prog) (w := w) (base := base) D17 T c_check_size c_still_counts c_check_number c_still_entries
  have c_still_number := ok_still_number (P := l.prog) (w := w) (base := base) D19 T c_number_in c_is_still c_still_counts
  have c__law_size_right := ok__law_size_right (P := l.prog) (w := w) (base := base) D25 T c__law_all c_spans_number c_still_number c__law_still c_count_spans c_count_still c_nth_spans c_nth_still
  exact ok_law D26 T c_spans_number c_still_number c__law_size_right
end
end K21
open PySem PySem.W PyProof.Rows
set_option maxHeartbeats 0 in
theorem PySem.Challenge.cw_spanrounds_k21_rows_numbered_holds : PySem.Challenge.rw_spanrounds_k21_rows_numbered.Holds := by
  w_on; o_law; k_head; (case hw => w_witness2)
  k_fill
  refine Sx.walk_g (l := PySem.Challenge.rw_spanrounds_k21_rows_numbered) (n := 63) (k := 105) (x := "script") (sp := K21.sp_law) rfl (by decide) rfl ⟨rfl, by decide, by decide⟩
    (fun w h Y => PySem.W.kIn_of Y) ?F (fun K H a ns hl _ hS => ⟨a, ns, rfl, hS, hl, fun _ => rfl⟩)
  case F =>
    intro w mg fa h KX G hmg
    refine' K21.all_mk KX G hmg ?a0 ?l0 ?c0 ?k0 ?a1 ?l1 ?c1 ?k1 ?a2 ?l2 ?c2 ?k2 ?a3 ?l3 ?c3 ?k3 ?a4 ?l4 ?c4 ?k4 ?a5 ?l5 ?c5 ?k5 ?a6 ?l6 ?c6 ?k6 ?a7 ?l7 ?c7 ?k7 ?a8 ?l8 ?c8 ?k8 ?a9 ?l9 ?c9 ?k9 ?a10 ?l10 ?c10 ?k10 ?a11 ?l11 ?c11 ?k11 ?a12 ?l12 ?c12 ?k12 ?a13 ?l13 ?c13 ?k13 ?a14 ?l14 ?c14 ?k14 ?a15 ?l15 ?c15 ?k15 ?a16 ?l16 ?c16 ?k16 ?a17 ?l17 ?c17 ?k17 ?a18 ?l18 ?c18 ?k18 ?a19 ?l19 ?c19 ?k19 ?a20 ?l20 ?c20 ?k20 ?a21 ?l21 ?c21 ?k21 ?a22 ?l22 ?c22 ?k22 ?a23 ?l23 ?c23 ?k23 ?a24 ?l24 ?c24 ?k24 ?a25 ?l25 ?c25 ?k25 ?a26 ?l26 ?c26 ?k26 ?kc0 ?kc1 ?z0 ?z1 ?z2 ?z3 ?z4 ?z5 ?z6 ?z7 ?z8 ?z9 ?z10 ?z11 ?z12
    (case a0 => k_is); (case l0 => k_is); (case c0 => k_is); (case k0 => k_is)
    (case a1 => k_is); (case l1 => k_is); (case c1 => k_is); (case k1 => k_is)
    (case a2 => k_is); (case l2 => k_is); (case c2 => k_is); (case k2 => k_is)
    (case a3 => k_is); (case l3 => k_is); (case c3 => k_is); (case k3 => k_is)
    (case a4 => k_is); (case l4 => k_is); (case c4 => k_is); (case k4 => k_is)
    (case a5 => k_is); (case l5 => k_is); (case c5 => k_is); (case k5 => k_is)
    (case a6 => k_is); (case l6 => k_is); (case c6 => k_is); (case k6 => k_is)
    (case a7 => k_is); (case l7 => k_is); (case c7 => k_is); (case k7 => k_is)
    (case a8 => k_is); (case l8 => k_is); (case c8 => k_is); (case k8 => k_is)
    (case a9 => k_is); (case l9 => k_is); (case c9 => k_is); (case k9 => k_is)
    (case a10 => k_is); (case l10 => k_is); (case c10 => k_is); (case k10 => k_is)
    (case a11 => k_is); (case l11 => k_is); (case c11 => k_is); (case k11 => k_is)
    (case a12 => k_is); (case l12 => k_is); (case c12 => k_is); (case k12 => k_is)
    (case a13 => k_is); (case l13 => k_is); (case c13 => k_is); (case k13 => k_is)
    (case a14 => k_is); (case l14 => k_is); (case c14 => k_is); (case k14 => k_is)
    (case a15 => k_is); (case l15 => k_is); (case c15 => k_is); (case k15 => k_is)
    (case a16 => k_is); (case l16 => k_is); (case c16 => k_is); (case k16 => k_is)
    (case a17 => k_is); (case l17 => k_is); (case c17 => k_is); (case k17 => k_is)
    (case a18 => k_is); (case l18 => k_is); (case c18 => k_is); (case k18 => k_is)
    (case a19 => k_is); (case l19 => k_is); (case c19 => k_is); (case k19 => k_is)
    (case a20 => k_is); (case l20 => k_is); (case c20 => k_is); (case k20 => k_is)
    (case a21 => k_is); (case l21 => k_is); (case c21 => k_is); (case k21 => k_is)
    (case a22 => k_is); (case l22 => k_is); (case c22 => k_is); (case k22 => k_is)
    (case a23 => k_is); (case l23 => k_is); (case c23 => k_is); (case k23 => k_is)
    (case a24 => k_is); (case l24 => k_is); (case c24 => k_is); (case k24 => k_is)
    (case a25 => k_is); (case l25 => k_is); (case c25 => k_is); (case k25 => k_is)
    (case a26 => k_is); (case l26 => k_is); (case c26 => k_is); (case k26 => k_is)
    (case kc0 => k_is); (case kc1 => k_is); (case z0 => k_is); (case z1 => k_is)
    (case z2 => k_is); (case z3 => k_is); (case z4 => k_is); (case z5 => k_is)
    (case z6 => k_is); (case z7 => k_is); (case z8 => k_is); (case z9 => k_is)
    (case z10 => k_is); (case z11 => k_is); (case z12 => k_is)
#print axioms PySem.Challenge.cw_spanrounds_k21_rows_numbered_holds
