/- The spans near one, as lists: what is added and taken away there, what is covered and met. No statement is proved here. -/
import Derived.Test.YtlnmdepaobocnaaSMath
namespace Go.Proofs.Ytlnmdepaobocnaa
set_option linter.unusedVariables false
set_option linter.unusedSimpArgs false

/-- From i up to j stand those spans that have an address of s, or one right beside it. -/
def NearS (l : List Sp) (s : Sp) (i j : Nat) : Prop := ∃ a m b, l = a ++ (m ++ b) ∧ a.length = i ∧ (a ++ m).length = j ∧ (∀ x ∈ a, ltS x s) ∧ (∀ x ∈ m, ¬ ltS x s ∧ ¬ ltS s x) ∧ (∀ x ∈ b, ltS s x)
theorem canonS_at {l : List Sp} (h : canonS l) (z : Sp) : ∀ a b, a < b → b < l.length → ltS (l.getD a z) (l.getD b z) := by
  induction l with
  | nil => intro a b _ hb; simp at hb
  | cons x l ih =>
    intro a b hab hb
    cases b with
    | zero => omega
    | succ b =>
      have hb' : b < l.length := by simpa using hb
      cases a with
      | zero =>
        simp only [List.getD_cons_zero, List.getD_cons_succ]
        refine h.2.1 _ ?_
        rw [List.getD_eq_getElem?_getD, List.getElem?_eq_getElem hb']
        exact List.getElem_mem hb'
      | succ a =>
        simp only [List.getD_cons_succ]
        exact ih h.2.2 a b (by omega) hb'
theorem canonS_right_at {l : List Sp} (h : canonS l) (z : Sp) (a : Nat) (ha : a < l.length) : rightS (l.getD a z) := by
  refine canonS_right h _ ?_
  rw [List.getD_eq_getElem?_getD, List.getElem?_eq_getElem ha]
  exact List.getElem_mem ha
theorem mem_take_at {l : List Sp} {k : Nat} {x : Sp} (z : Sp) (h : x ∈ l.take k) : ∃ t, t < k ∧ t < l.length ∧ x = l.getD t z := by
  obtain ⟨t, ht, rfl⟩ := List.getElem_of_mem h
  rw [List.length_take] at ht
  refine ⟨t, by omega, by omega, ?_⟩
  rw [List.getD_eq_getElem?_getD, List.getElem?_eq_getElem (by omega)]
  simp
theorem mem_drop_at {l : List Sp} {k : Nat} {x : Sp} (z : Sp) (h : x ∈ l.drop k) : ∃ t, k ≤ t ∧ t < l.length ∧ x = l.getD t z := by
  obtain ⟨t, ht, rfl⟩ := List.getElem_of_mem h
  rw [List.length_drop] at ht
  refine ⟨k + t, by omega, by omega, ?_⟩
  rw [List.getD_eq_getElem?_getD, List.getElem?_eq_getElem (by omega)]
  simp
theorem near_of {l : List Sp} {s : Sp} (z : Sp) {i k n : Nat} (hn : l.length = n) (hi : i ≤ n) (hk : k ≤ n - i) (h1 : ∀ t, t < i → ltS (l.getD t z) s) (h2 : ∀ t, i ≤ t → t < n → ¬ ltS (l.getD t z) s)
    (h3 : ∀ t, t < k → ¬ ltS s (l.getD (i + t) z)) (h4 : ∀ t, k ≤ t → t < n - i → ltS s (l.getD (i + t) z)) : NearS l s i (i + k) := by
  refine ⟨l.take i, (l.drop i).take k, l.drop (i + k), ?_, by rw [List.length_take]; omega, by simp only [List.length_append, List.length_take, List.length_drop]; omega, fun x hx => ?_, fun x hx => ?_, fun x hx => ?_⟩
  · rw [← List.drop_drop, List.take_append_drop, List.take_append_drop]
  · obtain ⟨t, q1, q2, rfl⟩ := mem_take_at z hx
    exact h1 t q1
  · obtain ⟨t, q1, q2, rfl⟩ := mem_take_at z hx
    have e : (l.drop i).getD t z = l.getD (i + t) z := by
      rw [List.getD_eq_getElem?_getD, List.getElem?_drop, ← List.getD_eq_getElem?_getD]
    rw [List.length_drop] at q2
    rw [e]
    exact ⟨h2 _ (by omega) (by omega), h3 t q1⟩
  · obtain ⟨t, q1, q2, rfl⟩ := mem_drop_at z hx
    obtain ⟨q, rfl⟩ : ∃ q, t = i + q := ⟨t - i, by omega⟩
    exact h4 q (by omega) (by omega)
theorem NearS.le {l : List Sp} {s : Sp} {i j : Nat} (h : NearS l s i j) : i ≤ j ∧ j ≤ l.length := by
  obtain ⟨a, m, b, rfl, rfl, rfl, _⟩ := h
  simp only [List.length_append]
  omega
theorem NearS.mid {l : List Sp} {s : Sp} {i j : Nat} (h : NearS l s i j) : ∀ x ∈ (l.drop i).take (j - i), ¬ ltS x s ∧ ¬ ltS s x := by
  obtain ⟨a, m, b, rfl, rfl, rfl, h1, h2, h3⟩ := h
  rw [List.drop_left, List.length_append, Nat.add_sub_cancel_left, List.take_left]
  exact h2

/-- A span stretched over the first and the last of some. -/
def strS (s : Sp) (m : List Sp) : Sp := match m with
  | [] => s
  | x :: r => (s.1, min s.2.1 x.2.1, max s.2.2 ((x :: r).getLast (by simp)).2.2)
theorem last_in (x : Sp) (r : List Sp) : (x :: r).getLast (by simp) ∈ x :: r := List.getLast_mem _
theorem last_most {x : Sp} {r : List Sp} (h : canonS (x :: r)) (ht : ∀ y ∈ x :: r, y.1 = x.1) : ∀ y ∈ x :: r, x.2.1 ≤ y.2.1 ∧ y.2.2 ≤ ((x :: r).getLast (by simp)).2.2 := by
  induction r generalizing x with
  | nil =>
    intro y hy
    obtain rfl := List.mem_singleton.1 hy
    exact ⟨Int.le_refl _, Int.le_refl _⟩
  | cons z r ih =>
    obtain ⟨hx, hl, hz⟩ := h
    have htz : ∀ y ∈ z :: r, y.1 = z.1 := fun y hy => (ht y (List.mem_cons_of_mem _ hy)).trans (ht z (List.mem_cons_of_mem _ (List.mem_cons_self ..))).symm
    have hi := ih hz htz
    have e : (x :: z :: r).getLast (by simp) = (z :: r).getLast (by simp) := List.getLast_cons (by simp)
    intro y hy
    rw [e]
    have q1 := hl z (List.mem_cons_self ..)
    have q2 := hi z (List.mem_cons_self ..)
    have q3 := ht z (List.mem_cons_of_mem _ (List.mem_cons_self ..))
    have q4 := hz.1
    unfold ltS rightS at *
    rcases List.mem_cons.1 hy with rfl | hy
    · omega
    · have q5 := hi y hy
      omega
theorem mid_table {s x : Sp} (h : ¬ ltS x s ∧ ¬ ltS s x) : x.1 = s.1 ∧ s.2.1 ≤ x.2.2 ∧ x.2.1 ≤ s.2.2 := by
  unfold ltS at h
  omega
theorem str_in {s : Sp} {m : List Sp} (hs : rightS s) (hm : canonS m) (hn : ∀ x ∈ m, ¬ ltS x s ∧ ¬ ltS s x) (t p : Int) : inS (strS s m) t p ↔ inS s t p ∨ hasS m t p := by
  cases m with
  | nil =>
    have h0 := hasS_nil t p
    unfold strS
    exact ⟨.inl, fun h => h.elim id fun h => absurd h h0⟩
  | cons x r =>
    have hx := mid_table (hn x (List.mem_cons_self ..))
    have ht : ∀ y ∈ x :: r, y.1 = x.1 := fun y hy => (mid_table (hn y hy)).1.trans hx.1.symm
    have hl := last_in x r
    have hq := mid_table (hn _ hl)
    have hmost := last_most hm ht
    have hxr := hm.1
    have hlr := canonS_right hm _ hl
    obtain ⟨z, hz⟩ : ∃ z, (x :: r).getLast (by simp) = z := ⟨_, rfl⟩
    unfold strS
    simp only [hz] at *
    constructor
    · rintro ⟨h1, h2, h3⟩
      dsimp only at h1 h2 h3
      by_cases hin : inS s t p
      · exact .inl hin
      · refine .inr ?_
        unfold inS at hin
        by_cases hp : p < s.2.1
        · exact ⟨x, List.mem_cons_self .., by omega, by omega, by omega⟩
        · exact ⟨z, hl, by omega, by omega, by omega⟩
    · rintro (⟨h1, h2, h3⟩ | ⟨y, hy, h1, h2, h3⟩)
      · exact ⟨h1, by dsimp only; omega, by dsimp only; omega⟩
      · have q1 := hmost y hy
        have q2 := ht y hy
        exact ⟨by dsimp only; omega, by dsimp only; omega, by dsimp only; omega⟩
theorem str_right {s : Sp} {m : List Sp} (hs : rightS s) (hm : canonS m) (hn : ∀ x ∈ m, ¬ ltS x s ∧ ¬ ltS s x) : rightS (strS s m) ∧ (strS s m).1 = s.1 ∧ (strS s m).2.1 ≤ s.2.1 ∧ s.2.2 ≤ (strS s m).2.2 := by
  cases m with
  | nil => exact ⟨hs, rfl, Int.le_refl _, Int.le_refl _⟩
  | cons x r =>
    have hxr := hm.1
    have hlr := canonS_right hm _ (last_in x r)
    unfold strS
    unfold rightS at *
    dsimp only
    omega
/-- What is ahead of a span and of all near it is ahead of the stretched one; likewise behind. -/
theorem lt_str {s y : Sp} {m : List Sp} (h : ltS y s) (hm : ∀ x ∈ m, ltS y x) (hn : ∀ x ∈ m, ¬ ltS x s ∧ ¬ ltS s x) : ltS y (strS s m) := by
  cases m with
  | nil => exact h
  | cons x r =>
    have h1 := hm x (List.mem_cons_self ..)
    have h2 := mid_table (hn x (List.mem_cons_self ..))
    unfold strS ltS at *
    dsimp only
    omega
theorem str_lt {s y : Sp} {m : List Sp} (h : ltS s y) (hm : ∀ x ∈ m, ltS x y) (hn : ∀ x ∈ m, ¬ ltS x s ∧ ¬ ltS s x) : ltS (strS s m) y := by
  cases m with
  | nil => exact h
  | cons x r =>
    have h1 := hm _ (last_in x r)
    have h2 := mid_table (hn _ (last_in x r))
    unfold strS ltS at *
    dsimp only
    omega

/-- Add, by the spans near. -/
theorem near_add {l : List Sp} {s : Sp} {i j : Nat} (hl : canonS l) (hs : rightS s) (h : NearS l s i j) : l.take i ++ ([strS s ((l.drop i).take (j - i))] ++ l.drop j) = addS l s := by
  obtain ⟨a, m, b, rfl, rfl, rfl, h1, h2, h3⟩ := h
  rw [List.take_left, List.drop_left, List.length_append, Nat.add_sub_cancel_left, List.take_left]
  rw [show List.drop (a.length + m.length) (a ++ (m ++ b)) = b by rw [← List.append_assoc, ← List.length_append, List.drop_left]]
  obtain ⟨ha, hmb, hab⟩ := canonS_append.1 hl
  obtain ⟨hm, hb, hmb'⟩ := canonS_append.1 hmb
  have hr := str_right hs hm h2
  refine canonS_ext (canonS_append.2 ⟨ha, canonS_append.2 ⟨⟨hr.1, fun y hy => (by cases hy), trivial⟩, hb, fun x hx y hy => ?_⟩, fun x hx y hy => ?_⟩) (addS_canon hl hs) fun t p => ?_
  · obtain rfl := List.mem_singleton.1 hx
    exact str_lt (h3 y hy) (fun z hz => hmb' z hz y hy) h2
  · rcases List.mem_append.1 hy with hy | hy
    · obtain rfl := List.mem_singleton.1 hy
      exact lt_str (h1 x hx) (fun z hz => hab x hx z (List.mem_append_left _ hz)) h2
    · exact hab x hx y (List.mem_append_right _ hy)
  · have h0 := hasS_nil t p
    rw [addS_has hl hs, hasS_append, hasS_append, hasS_append, hasS_append, hasS_cons, str_in hs hm h2]
    constructor
    · rintro (h | ((h | h) | h) | h)
      · exact .inl (.inl h)
      · exact .inr h
      · exact .inl (.inr (.inl h))
      · exact absurd h h0
      · exact .inl (.inr (.inr h))
    · rintro ((h | h | h) | h)
      · exact .inl h
      · exact .inr (.inl (.inl (.inr h)))
      · exact .inr (.inr h)
      · exact .inr (.inl (.inl (.inl h)))
/-- What of one span is ahead of another within it, and what is behind. -/
def sidS (z s : Sp) : List Sp := (if z.2.1 < s.2.1 then [(s.1, z.2.1, s.2.1)] else []) ++ (if s.2.2 < z.2.2 then [(s.1, s.2.2, z.2.2)] else [])
theorem sid_cut {z s : Sp} (hs : rightS s) (hz : rightS z) (h1 : z.1 = s.1) (h2 : z.2.1 ≤ s.2.1) (h3 : s.2.2 ≤ z.2.2) : sidS z s = cut1 s z := by
  have e : ¬ (z.1 ≠ s.1 ∨ z.2.2 ≤ s.2.1 ∨ s.2.2 ≤ z.2.1) := by
    unfold rightS at *
    omega
  unfold cut1 sidS
  rw [if_neg e, h1]
/-- Cut, by the spans near. -/
theorem near_cut {l : List Sp} {s : Sp} {i j : Nat} (hl : canonS l) (hs : rightS s) (h : NearS l s i j) : l.take i ++ (sidS (strS s ((l.drop i).take (j - i))) s ++ l.drop j) = cutS l s := by
  obtain ⟨a, m, b, rfl, rfl, rfl, h1, h2, h3⟩ := h
  rw [List.take_left, List.drop_left, List.length_append, Nat.add_sub_cancel_left, List.take_left]
  rw [show List.drop (a.length + m.length) (a ++ (m ++ b)) = b by rw [← List.append_assoc, ← List.length_append, List.drop_left]]
  obtain ⟨ha, hmb, hab⟩ := canonS_append.1 hl
  obtain ⟨hm, hb, hmb'⟩ := canonS_append.1 hmb
  have hr := str_right hs hm h2
  have e := sid_cut hs hr.1 hr.2.1 hr.2.2.1 hr.2.2.2
  rw [e]
  have hc := cut1_canon hs hr.1
  refine canonS_ext (canonS_append.2 ⟨ha, canonS_append.2 ⟨hc, hb, fun x hx y hy => ?_⟩, fun x hx y hy => ?_⟩) (cutS_canon hl hs) fun t p => ?_
  · have q1 := cut1_in hs hr.1 hx
    have q2 := str_lt (h3 y hy) (fun z hz => hmb' z hz y hy) h2
    unfold ltS at *
    omega
  · rcases List.mem_append.1 hy with hy | hy
    · have q1 := cut1_in hs hr.1 hy
      have q2 := lt_str (h1 x hx) (fun z hz => hab x hx z (List.mem_append_left _ hz)) h2
      unfold ltS at *
      omega
    · exact hab x hx y (List.mem_append_right _ hy)
  · rw [cutS_has, hasS_append, hasS_append, hasS_append, hasS_append, cut1_has, str_in hs hm h2]
    have hna : hasS a t p → ¬ inS s t p := by
      rintro ⟨x, hx, q1, q2, q3⟩ ⟨q4, q5, q6⟩
      have q7 := h1 x hx
      unfold ltS at q7
      omega
    have hnb : hasS b t p → ¬ inS s t p := by
      rintro ⟨x, hx, q1, q2, q3⟩ ⟨q4, q5, q6⟩
      have q7 := h3 x hx
      unfold ltS at q7
      omega
    constructor
    · rintro (h | ⟨h | h, k⟩ | h)
      · exact ⟨.inl h, hna h⟩
      · exact absurd h k
      · exact ⟨.inr (.inl h), k⟩
      · exact ⟨.inr (.inr h), hnb h⟩
    · rintro ⟨h | h | h, k⟩
      · exact .inl h
      · exact .inr (.inl ⟨.inr h, k⟩)
      · exact .inr (.inr h)
theorem near_covers {l : List Sp} {s : Sp} {i j : Nat} (hlt : s.2.1 < s.2.2) (h : NearS l s i j) : coversS l s ↔ coversS ((l.drop i).take (j - i)) s := by
  obtain ⟨a, m, b, rfl, rfl, rfl, h1, h2, h3⟩ := h
  rw [List.drop_left, List.length_append, Nat.add_sub_cancel_left, List.take_left]
  constructor
  · rintro ⟨x, hx, q1, q2, q3⟩
    rcases List.mem_append.1 hx with hx | hx
    · have := h1 x hx; unfold ltS at this; omega
    · rcases List.mem_append.1 hx with hx | hx
      · exact ⟨x, hx, q1, q2, q3⟩
      · have := h3 x hx; unfold ltS at this; omega
  · rintro ⟨x, hx, q⟩
    exact ⟨x, List.mem_append_right _ (List.mem_append_left _ hx), q⟩
theorem near_meets {l : List Sp} {s : Sp} {i j : Nat} (h : NearS l s i j) : meetsS l s ↔ meetsS ((l.drop i).take (j - i)) s := by
  obtain ⟨a, m, b, rfl, rfl, rfl, h1, h2, h3⟩ := h
  rw [List.drop_left, List.length_append, Nat.add_sub_cancel_left, List.take_left]
  constructor
  · rintro ⟨x, hx, q1, q2, q3⟩
    rcases List.mem_append.1 hx with hx | hx
    · have := h1 x hx; unfold ltS at this; omega
    · rcases List.mem_append.1 hx with hx | hx
      · exact ⟨x, hx, q1, q2, q3⟩
      · have := h3 x hx; unfold ltS at this; omega
  · rintro ⟨x, hx, q⟩
    exact ⟨x, List.mem_append_right _ (List.mem_append_left _ hx), q⟩
theorem has_covers (l : List Sp) (t a : Int) : hasS l t a ↔ coversS l (t, a, a + 1) := by
  constructor
  · rintro ⟨x, hx, h1, h2, h3⟩
    exact ⟨x, hx, h1, h2, by dsimp only; omega⟩
  · rintro ⟨x, hx, h1, h2, h3⟩
    dsimp only at *
    exact ⟨x, hx, h1, h2, by omega⟩

/-- Canonical, place by place: of any list. -/
def adjS (l : List Sp) (n : Nat) : Prop := ∀ i, i < n → rightS (l.getD i (0, 0, 0)) ∧ (0 < i → ltS (l.getD (i - 1) (0, 0, 0)) (l.getD i (0, 0, 0)))
theorem adj_of_canon {l : List Sp} {n : Nat} (hn : l.length = n) (h : canonS l) : adjS l n := fun i hi => ⟨canonS_right_at h _ i (by omega), fun h0 => canonS_at h _ (i - 1) i (by omega) (by omega)⟩

end Go.Proofs.Ytlnmdepaobocnaa
