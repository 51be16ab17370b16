/- Lists of spans, as lists: right, canonical, added to, taken away from; two canonical lists of the same points are one. No statement is proved here. -/
import Derived.Test.YtlnmdepaobocnaaBase
namespace Go.Proofs.Ytlnmdepaobocnaa
set_option linter.unusedVariables false
set_option linter.unusedSimpArgs false

/-- A span: its table, from where, up to where. -/
abbrev Sp := Int × Int × Int
def rightS (s : Sp) : Prop := 0 ≤ s.1 ∧ s.1 ≤ 3 ∧ 0 ≤ s.2.1 ∧ s.2.2 ≤ 65536 ∧ s.2.1 < s.2.2
instance (s : Sp) : Decidable (rightS s) := by unfold rightS; infer_instance
/-- One span stands ahead of another, with a gap between them. -/
def ltS (x y : Sp) : Prop := x.1 < y.1 ∨ (x.1 = y.1 ∧ x.2.2 < y.2.1)
instance (x y : Sp) : Decidable (ltS x y) := by unfold ltS; infer_instance
/-- All are right, and each stands ahead of the next. -/
def canonS : List Sp → Prop
  | [] => True
  | x :: l => rightS x ∧ (∀ y ∈ l, ltS x y) ∧ canonS l
def inS (s : Sp) (t a : Int) : Prop := s.1 = t ∧ s.2.1 ≤ a ∧ a < s.2.2
def hasS (l : List Sp) (t a : Int) : Prop := ∃ s ∈ l, inS s t a
theorem hasS_nil (t a : Int) : ¬ hasS [] t a := fun ⟨_, h, _⟩ => by cases h
theorem hasS_cons (x : Sp) (l : List Sp) (t a : Int) : hasS (x :: l) t a ↔ inS x t a ∨ hasS l t a := by
  constructor
  · rintro ⟨s, hs, h⟩
    rcases List.mem_cons.1 hs with rfl | hs
    · exact .inl h
    · exact .inr ⟨s, hs, h⟩
  · rintro (h | ⟨s, hs, h⟩)
    · exact ⟨x, List.mem_cons_self .., h⟩
    · exact ⟨s, List.mem_cons_of_mem _ hs, h⟩
theorem hasS_append (l m : List Sp) (t a : Int) : hasS (l ++ m) t a ↔ hasS l t a ∨ hasS m t a := by
  induction l with
  | nil => simp [hasS_nil]
  | cons x l ih => rw [List.cons_append, hasS_cons, hasS_cons, ih, or_assoc]
theorem ltS_trans {x y z : Sp} (hy : rightS y) (h : ltS x y) (k : ltS y z) : ltS x z := by
  unfold ltS rightS at *
  omega
theorem canonS_append {l m : List Sp} : canonS (l ++ m) ↔ canonS l ∧ canonS m ∧ ∀ x ∈ l, ∀ y ∈ m, ltS x y := by
  induction l with
  | nil => simp [canonS]
  | cons z l ih =>
    rw [List.cons_append, canonS, canonS, ih]
    constructor
    · rintro ⟨h1, h2, h3, h4, h5⟩
      refine ⟨⟨h1, fun y hy => h2 y (List.mem_append_left _ hy), h3⟩, h4, fun x hx y hy => ?_⟩
      rcases List.mem_cons.1 hx with rfl | hx
      · exact h2 y (List.mem_append_right _ hy)
      · exact h5 x hx y hy
    · rintro ⟨⟨h1, h2, h3⟩, h4, h5⟩
      refine ⟨h1, fun y hy => ?_, h3, h4, fun x hx y hy => h5 x (List.mem_cons_of_mem _ hx) y hy⟩
      rcases List.mem_append.1 hy with hy | hy
      · exact h2 y hy
      · exact h5 z (List.mem_cons_self ..) y hy
theorem canonS_right {l : List Sp} (h : canonS l) : ∀ x ∈ l, rightS x := by
  induction l with
  | nil => intro x hx; cases hx
  | cons z l ih =>
    intro x hx
    rcases List.mem_cons.1 hx with rfl | hx
    · exact h.1
    · exact ih h.2.2 x hx

/-- Two canonical lists that hold the same points are one list. -/
theorem canonS_ext : ∀ {l m : List Sp}, canonS l → canonS m → (∀ t a, hasS l t a ↔ hasS m t a) → l = m
  | [], [], _, _, _ => rfl
  | [], y :: m, _, hm, h => by
    have := (h y.1 y.2.1).2 ((hasS_cons ..).2 (.inl ⟨rfl, Int.le_refl _, hm.1.2.2.2.2⟩))
    exact absurd this (hasS_nil _ _)
  | x :: l, [], hl, _, h => by
    have := (h x.1 x.2.1).1 ((hasS_cons ..).2 (.inl ⟨rfl, Int.le_refl _, hl.1.2.2.2.2⟩))
    exact absurd this (hasS_nil _ _)
  | x :: l, y :: m, hl, hm, h => by
    have after : ∀ {z : Sp} {k : List Sp}, canonS (z :: k) → ∀ t a, hasS k t a → z.1 < t ∨ (z.1 = t ∧ z.2.2 < a) := by
      rintro z k hk t a ⟨s, hs, h1, h2, h3⟩
      have h4 := hk.2.1 s hs
      unfold ltS at h4
      omega
    have hx := hl.1
    have hy := hm.1
    unfold rightS at hx hy
    obtain ⟨xt, xf, xu⟩ := x
    obtain ⟨yt, yf, yu⟩ := y
    dsimp only at hx hy
    -- a point of x's, and whether it is y's
    have px : ∀ a, xf ≤ a → a < xu → (inS (yt, yf, yu) xt a ∨ hasS m xt a) := fun a h1 h2 => (hasS_cons ..).1 ((h xt a).1 ((hasS_cons ..).2 (.inl ⟨rfl, h1, h2⟩)))
    have py : ∀ a, yf ≤ a → a < yu → (inS (xt, xf, xu) yt a ∨ hasS l yt a) := fun a h1 h2 => (hasS_cons ..).1 ((h yt a).2 ((hasS_cons ..).2 (.inl ⟨rfl, h1, h2⟩)))
    have am := after hm
    have al := after hl
    dsimp only at am al
    have e1 : xt = yt ∧ xf = yf := by
      have h1 := px xf (Int.le_refl _) hx.2.2.2.2
      have h2 := py yf (Int.le_refl _) hy.2.2.2.2
      rcases h1 with ⟨h1, h1', h1''⟩ | h1
      · rcases h2 with ⟨h2, h2', h2''⟩ | h2
        · dsimp only at *; omega
        · have := al _ _ h2; dsimp only at *; omega
      · have := am _ _ h1
        rcases h2 with ⟨h2, h2', h2''⟩ | h2
        · dsimp only at *; omega
        · have := al _ _ h2; omega
    obtain ⟨rfl, rfl⟩ := e1
    have e2 : xu = yu := by
      rcases Int.lt_trichotomy xu yu with hlt | he | hlt
      · have h2 := py xu (by omega) hlt
        rcases h2 with ⟨_, _, h2⟩ | h2
        · dsimp only at h2; omega
        · have := al _ _ h2; omega
      · exact he
      · have h2 := px yu (by omega) hlt
        rcases h2 with ⟨_, _, h2⟩ | h2
        · dsimp only at h2; omega
        · have := am _ _ h2; omega
    subst e2
    have hlm : l = m := by
      refine canonS_ext hl.2.2 hm.2.2 fun t a => ?_
      have h1 := h t a
      rw [hasS_cons, hasS_cons] at h1
      constructor
      · intro h2
        rcases h1.1 (.inr h2) with ⟨q1, q2, q3⟩ | h3
        · have := al _ _ h2; dsimp only at *; omega
        · exact h3
      · intro h2
        rcases h1.2 (.inr h2) with ⟨q1, q2, q3⟩ | h3
        · have := am _ _ h2; dsimp only at *; omega
        · exact h3
    rw [hlm]

/-- Add: what stands ahead, what stands behind, and the span, grown by what it touches. -/
def addLoop : List Sp → List Sp → List Sp → Sp → List Sp
  | [], a, b, s => a ++ s :: b
  | x :: l, a, b, s => if x.1 < s.1 ∨ (x.1 = s.1 ∧ x.2.2 < s.2.1) then addLoop l (a ++ [x]) b s else if s.1 < x.1 ∨ s.2.2 < x.2.1 then addLoop l a (b ++ [x]) s else addLoop l a b (s.1, min s.2.1 x.2.1, max s.2.2 x.2.2)
def addS (l : List Sp) (s : Sp) : List Sp := addLoop l [] [] s

theorem inS_merge {s x : Sp} (hs : rightS s) (hx : rightS x) (h1 : ¬ (x.1 < s.1 ∨ (x.1 = s.1 ∧ x.2.2 < s.2.1))) (h2 : ¬ (s.1 < x.1 ∨ s.2.2 < x.2.1)) (t a : Int) : inS (s.1, min s.2.1 x.2.1, max s.2.2 x.2.2) t a ↔ inS s t a ∨ inS x t a := by
  unfold inS rightS at *
  dsimp only
  omega
theorem right_merge {s x : Sp} (hs : rightS s) (hx : rightS x) : rightS (s.1, min s.2.1 x.2.1, max s.2.2 x.2.2) := by
  unfold rightS at *
  dsimp only
  omega

theorem addLoop_has : ∀ (l a b : List Sp) (s : Sp), (∀ x ∈ l, rightS x) → rightS s → ∀ t p, hasS (addLoop l a b s) t p ↔ hasS a t p ∨ hasS b t p ∨ hasS l t p ∨ inS s t p
  | [], a, b, s, _, _, t, p => by
    unfold addLoop
    rw [hasS_append, hasS_cons]
    have := hasS_nil t p
    constructor
    · rintro (h | h | h)
      · exact .inl h
      · exact .inr (.inr (.inr h))
      · exact .inr (.inl h)
    · rintro (h | h | h | h)
      · exact .inl h
      · exact .inr (.inr h)
      · exact absurd h this
      · exact .inr (.inl h)
  | x :: l, a, b, s, hl, hs, t, p => by
    have hx := hl x (List.mem_cons_self ..)
    have hl' : ∀ y ∈ l, rightS y := fun y hy => hl y (List.mem_cons_of_mem _ hy)
    have h0 := hasS_nil t p
    unfold addLoop
    rw [hasS_cons]
    split
    · rw [addLoop_has l (a ++ [x]) b s hl' hs, hasS_append, hasS_cons]
      constructor
      · rintro ((h | h | h) | h | h | h)
        · exact .inl h
        · exact .inr (.inr (.inl (.inl h)))
        · exact absurd h h0
        · exact .inr (.inl h)
        · exact .inr (.inr (.inl (.inr h)))
        · exact .inr (.inr (.inr h))
      · rintro (h | h | (h | h) | h)
        · exact .inl (.inl h)
        · exact .inr (.inl h)
        · exact .inl (.inr (.inl h))
        · exact .inr (.inr (.inl h))
        · exact .inr (.inr (.inr h))
    · rename_i h1
      split
      · rw [addLoop_has l a (b ++ [x]) s hl' hs, hasS_append, hasS_cons]
        constructor
        · rintro (h | (h | h | h) | h | h)
          · exact .inl h
          · exact .inr (.inl h)
          · exact .inr (.inr (.inl (.inl h)))
          · exact absurd h h0
          · exact .inr (.inr (.inl (.inr h)))
          · exact .inr (.inr (.inr h))
        · rintro (h | h | (h | h) | h)
          · exact .inl h
          · exact .inr (.inl (.inl h))
          · exact .inr (.inl (.inr (.inl h)))
          · exact .inr (.inr (.inl h))
          · exact .inr (.inr (.inr h))
      · rename_i h2
        rw [addLoop_has l a b _ hl' (right_merge hs hx), inS_merge hs hx h1 h2]
        constructor
        · rintro (h | h | h | h | h)
          · exact .inl h
          · exact .inr (.inl h)
          · exact .inr (.inr (.inl (.inr h)))
          · exact .inr (.inr (.inr h))
          · exact .inr (.inr (.inl (.inl h)))
        · rintro (h | h | (h | h) | h)
          · exact .inl h
          · exact .inr (.inl h)
          · exact .inr (.inr (.inr (.inr h)))
          · exact .inr (.inr (.inl h))
          · exact .inr (.inr (.inr (.inl h)))
theorem addS_has {l : List Sp} {s : Sp} (hl : canonS l) (hs : rightS s) (t p : Int) : hasS (addS l s) t p ↔ hasS l t p ∨ inS s t p := by
  unfold addS
  rw [addLoop_has l [] [] s (canonS_right hl) hs]
  have := hasS_nil t p
  constructor
  · rintro (h | h | h)
    · exact absurd h this
    · exact absurd h this
    · exact h
  · intro h
    exact .inr (.inr h)

theorem addLoop_canon : ∀ (l a b : List Sp) (s : Sp), canonS l → canonS (a ++ s :: b) → (∀ x ∈ a, ∀ y ∈ l, ltS x y) → (∀ y ∈ b, ∀ x ∈ l, ltS y x) → canonS (addLoop l a b s)
  | [], a, b, s, _, h, _, _ => h
  | x :: l, a, b, s, hl, h, ha, hb => by
    obtain ⟨h1, ⟨hs, hsb, h2⟩, h3⟩ := canonS_append.1 h
    obtain ⟨hx, hxl, hl'⟩ := hl
    have ha' : ∀ y ∈ a, ltS y x := fun y hy => ha y hy x (List.mem_cons_self ..)
    have hb' : ∀ y ∈ b, ltS y x := fun y hy => hb y hy x (List.mem_cons_self ..)
    have hall : ∀ y ∈ a, ∀ z ∈ l, ltS y z := fun y hy z hz => ha y hy z (List.mem_cons_of_mem _ hz)
    have hbll : ∀ y ∈ b, ∀ z ∈ l, ltS y z := fun y hy z hz => hb y hy z (List.mem_cons_of_mem _ hz)
    unfold addLoop
    split
    · rename_i hc
      have hxs : ltS x s := hc
      refine addLoop_canon l (a ++ [x]) b s hl' ?_ ?_ hbll
      · rw [List.append_assoc]
        refine canonS_append.2 ⟨h1, ⟨hx, ?_, hs, hsb, h2⟩, ?_⟩
        · intro y hy
          rcases List.mem_cons.1 hy with rfl | hy
          · exact hxs
          · exact ltS_trans hs hxs (hsb y hy)
        · intro y hy z hz
          rcases List.mem_cons.1 hz with rfl | hz
          · exact ha' y hy
          · exact h3 y hy z hz
      · intro y hy z hz
        rcases List.mem_append.1 hy with hy | hy
        · exact hall y hy z hz
        · obtain rfl := List.mem_singleton.1 hy
          exact hxl z hz
    · rename_i hc
      split
      · rename_i hd
        have hsx : ltS s x := by
          unfold ltS rightS at *
          omega
        refine addLoop_canon l a (b ++ [x]) s hl' ?_ hall ?_
        · refine canonS_append.2 ⟨h1, ⟨hs, ?_, canonS_append.2 ⟨h2, ⟨hx, fun y hy => (by cases hy), trivial⟩, fun y hy z hz => ?_⟩⟩, ?_⟩
          · intro y hy
            rcases List.mem_append.1 hy with hy | hy
            · exact hsb y hy
            · obtain rfl := List.mem_singleton.1 hy
              exact hsx
          · obtain rfl := List.mem_singleton.1 hz
            exact hb' y hy
          · intro y hy z hz
            rcases List.mem_cons.1 hz with rfl | hz
            · exact h3 y hy z (List.mem_cons_self ..)
            · rcases List.mem_append.1 hz with hz | hz
              · exact h3 y hy z (List.mem_cons_of_mem _ hz)
              · obtain rfl := List.mem_singleton.1 hz
                exact ha' y hy
        · intro y hy z hz
          rcases List.mem_append.1 hy with hy | hy
          · exact hbll y hy z hz
          · obtain rfl := List.mem_singleton.1 hy
            exact hxl z hz
      · rename_i hd
        have hnb : b = [] := by
          cases b with
          | nil => rfl
          | cons y b =>
            have q1 := hsb y (List.mem_cons_self ..)
            have q2 := hb' y (List.mem_cons_self ..)
            have hy := canonS_right h2 y (List.mem_cons_self ..)
            have q3 := ltS_trans hy q1 q2
            unfold ltS at q3
            omega
        subst hnb
        have hm := right_merge hs hx
        refine addLoop_canon l a [] _ hl' (canonS_append.2 ⟨h1, ⟨hm, fun y hy => (by cases hy), trivial⟩, fun y hy z hz => ?_⟩) hall hbll
        obtain rfl := List.mem_singleton.1 hz
        have q1 := h3 y hy s (List.mem_cons_self ..)
        have q2 := ha' y hy
        unfold ltS at *
        dsimp only
        omega
theorem addS_canon {l : List Sp} {s : Sp} (hl : canonS l) (hs : rightS s) : canonS (addS l s) :=
  addLoop_canon l [] [] s hl ⟨hs, fun y hy => (by cases hy), trivial⟩ (fun x hx => by cases hx) (fun x hx => by cases hx)

/-- Cut: what is left of one span, and of a list. -/
def cut1 (s x : Sp) : List Sp := if x.1 ≠ s.1 ∨ x.2.2 ≤ s.2.1 ∨ s.2.2 ≤ x.2.1 then [x] else (if x.2.1 < s.2.1 then [(x.1, x.2.1, s.2.1)] else []) ++ (if s.2.2 < x.2.2 then [(x.1, s.2.2, x.2.2)] else [])
def cutS (l : List Sp) (s : Sp) : List Sp := l.flatMap (cut1 s)
theorem cut1_in {s x y : Sp} (hs : rightS s) (hx : rightS x) (h : y ∈ cut1 s x) : rightS y ∧ y.1 = x.1 ∧ x.2.1 ≤ y.2.1 ∧ y.2.2 ≤ x.2.2 := by
  unfold cut1 at h
  unfold rightS at *
  split at h
  · obtain rfl := List.mem_singleton.1 h
    omega
  · rcases List.mem_append.1 h with h | h
    · split at h
      · obtain rfl := List.mem_singleton.1 h
        dsimp only; omega
      · cases h
    · split at h
      · obtain rfl := List.mem_singleton.1 h
        dsimp only; omega
      · cases h
theorem cut1_canon {s x : Sp} (hs : rightS s) (hx : rightS x) : canonS (cut1 s x) := by
  have hr : ∀ y ∈ cut1 s x, rightS y := fun y hy => (cut1_in hs hx hy).1
  unfold cut1 at *
  split at hr
  · rename_i h
    rw [if_pos h]
    exact ⟨hx, fun y hy => (by cases hy), trivial⟩
  · rename_i h
    rw [if_neg h]
    refine canonS_append.2 ⟨?_, ?_, ?_⟩
    · split
      · rename_i h1
        exact ⟨hr _ (List.mem_append_left _ (by rw [if_pos h1]; exact List.mem_cons_self ..)), fun y hy => (by cases hy), trivial⟩
      · trivial
    · split
      · rename_i h1
        exact ⟨hr _ (List.mem_append_right _ (by rw [if_pos h1]; exact List.mem_cons_self ..)), fun y hy => (by cases hy), trivial⟩
      · trivial
    · intro y hy z hz
      split at hy
      · split at hz
        · obtain rfl := List.mem_singleton.1 hy
          obtain rfl := List.mem_singleton.1 hz
          unfold ltS rightS at *
          dsimp only
          omega
        · cases hz
      · cases hy
theorem cut1_has {s x : Sp} (t a : Int) : hasS (cut1 s x) t a ↔ inS x t a ∧ ¬ inS s t a := by
  have h0 := hasS_nil t a
  unfold cut1
  split
  · rename_i h
    rw [hasS_cons]
    unfold inS
    constructor
    · rintro (h1 | h1)
      · refine ⟨h1, fun h2 => ?_⟩
        omega
      · exact absurd h1 h0
    · intro h1
      exact .inl h1.1
  · rename_i h
    rw [hasS_append]
    unfold inS
    constructor
    · rintro (h1 | h1)
      · split at h1
        · rcases (hasS_cons ..).1 h1 with ⟨q1, q2, q3⟩ | h1
          · dsimp only at *; omega
          · exact absurd h1 h0
        · exact absurd h1 h0
      · split at h1
        · rcases (hasS_cons ..).1 h1 with ⟨q1, q2, q3⟩ | h1
          · dsimp only at *; omega
          · exact absurd h1 h0
        · exact absurd h1 h0
    · rintro ⟨⟨q1, q2, q3⟩, hn⟩
      by_cases ha : a < s.2.1
      · refine .inl ?_
        rw [if_pos (by omega)]
        exact (hasS_cons ..).2 (.inl ⟨q1, q2, ha⟩)
      · refine .inr ?_
        have hb : s.2.2 ≤ a := by omega
        rw [if_pos (by omega)]
        exact (hasS_cons ..).2 (.inl ⟨q1, hb, q3⟩)
theorem cutS_has (l : List Sp) (s : Sp) (t a : Int) : hasS (cutS l s) t a ↔ hasS l t a ∧ ¬ inS s t a := by
  induction l with
  | nil => exact ⟨fun h => absurd h (hasS_nil _ _), fun h => absurd h.1 (hasS_nil _ _)⟩
  | cons x l ih =>
    rw [show cutS (x :: l) s = cut1 s x ++ cutS l s from rfl, hasS_append, hasS_cons, ih, cut1_has]
    constructor
    · rintro (h | h)
      · exact ⟨.inl h.1, h.2⟩
      · exact ⟨.inr h.1, h.2⟩
    · rintro ⟨h | h, k⟩
      · exact .inl ⟨h, k⟩
      · exact .inr ⟨h, k⟩
theorem cutS_canon {l : List Sp} {s : Sp} (hl : canonS l) (hs : rightS s) : canonS (cutS l s) := by
  induction l with
  | nil => trivial
  | cons x l ih =>
    obtain ⟨hx, hxl, hl'⟩ := hl
    refine canonS_append.2 ⟨cut1_canon hs hx, ih hl', fun y hy z hz => ?_⟩
    obtain ⟨x', hx', hz'⟩ := List.mem_flatMap.1 hz
    have h1 := cut1_in hs hx hy
    have h2 := cut1_in hs (canonS_right hl' x' hx') hz'
    have h3 := hxl x' hx'
    unfold ltS at *
    omega

/-- Covers and Meets, by points. -/
def coversS (l : List Sp) (s : Sp) : Prop := ∃ x ∈ l, x.1 = s.1 ∧ x.2.1 ≤ s.2.1 ∧ s.2.2 ≤ x.2.2
def meetsS (l : List Sp) (s : Sp) : Prop := ∃ x ∈ l, x.1 = s.1 ∧ x.2.1 < s.2.2 ∧ s.2.1 < x.2.2
theorem meetsS_iff {l : List Sp} {s : Sp} (hl : ∀ x ∈ l, rightS x) (hs : rightS s) : meetsS l s ↔ ∃ a, inS s s.1 a ∧ hasS l s.1 a := by
  constructor
  · rintro ⟨x, hx, h1, h2, h3⟩
    have hr := hl x hx
    unfold rightS at *
    refine ⟨max s.2.1 x.2.1, ⟨rfl, by omega, by omega⟩, x, hx, h1, by omega, by omega⟩
  · rintro ⟨a, ⟨_, h1, h2⟩, x, hx, h3, h4, h5⟩
    exact ⟨x, hx, h3, by omega, by omega⟩
theorem coversS_iff {l : List Sp} {s : Sp} (hl : canonS l) (hs : rightS s) : coversS l s ↔ ∀ a, inS s s.1 a → hasS l s.1 a := by
  constructor
  · rintro ⟨x, hx, h1, h2, h3⟩ a ⟨_, h4, h5⟩
    exact ⟨x, hx, h1, by omega, by omega⟩
  · intro h
    have hs' := hs
    unfold rightS at hs'
    obtain ⟨x, hx, h1, h2, h3⟩ := h s.2.1 ⟨rfl, Int.le_refl _, hs'.2.2.2.2⟩
    refine ⟨x, hx, h1, h2, ?_⟩
    -- if it ended before, its end would be in another span, which would touch it
    by_cases hlt : x.2.2 < s.2.2
    · obtain ⟨y, hy, h4, h5, h6⟩ := h x.2.2 ⟨rfl, by omega, hlt⟩
      exfalso
      have hne : ∀ {k : List Sp}, canonS k → x ∈ k → y ∈ k → x = y ∨ ltS x y ∨ ltS y x := by
        intro k hk
        induction k with
        | nil => intro hx; cases hx
        | cons z k ih =>
          intro hx hy
          rcases List.mem_cons.1 hx with e1 | hx1
          · rcases List.mem_cons.1 hy with e2 | hy1
            · exact .inl (e1.trans e2.symm)
            · exact .inr (.inl (e1 ▸ hk.2.1 y hy1))
          · rcases List.mem_cons.1 hy with e2 | hy1
            · exact .inr (.inr (e2 ▸ hk.2.1 x hx1))
            · exact ih hk.2.2 hx1 hy1
      have hxr := canonS_right hl x hx
      have hyr := canonS_right hl y hy
      rcases hne hl hx hy with rfl | h7 | h7
      · omega
      · unfold ltS at h7; omega
      · unfold ltS rightS at *; omega
    · omega

/-- How many addresses there are. -/
def lenS (x : Sp) : Int := x.2.2 - x.2.1
def sizeS : List Sp → Int
  | [] => 0
  | x :: l => lenS x + sizeS l
theorem sizeS_append (l m : List Sp) : sizeS (l ++ m) = sizeS l + sizeS m := by
  induction l with
  | nil => simp [sizeS]
  | cons x l ih => rw [List.cons_append, sizeS, sizeS, ih]; omega
/-- How many of them two spans share. -/
def ovl (s x : Sp) : Int := if x.1 = s.1 then max 0 (min x.2.2 s.2.2 - max x.2.1 s.2.1) else 0
def ovlS (s : Sp) : List Sp → Int
  | [] => 0
  | x :: l => ovl s x + ovlS s l
theorem ovl_nonneg (s x : Sp) : 0 ≤ ovl s x := by
  unfold ovl
  split <;> omega
theorem ovlS_nonneg (s : Sp) (l : List Sp) : 0 ≤ ovlS s l := by
  induction l with
  | nil => exact Int.le_refl _
  | cons x l ih => have := ovl_nonneg s x; unfold ovlS; omega
theorem cut1_size {s x : Sp} (hs : rightS s) (hx : rightS x) : sizeS (cut1 s x) = lenS x - ovl s x := by
  unfold cut1 ovl
  unfold rightS at hs hx
  split
  · rename_i h
    by_cases h1 : x.1 = s.1
    · rw [if_pos h1]; unfold sizeS sizeS lenS; omega
    · rw [if_neg h1]; unfold sizeS sizeS lenS; omega
  · rename_i h
    have h1 : x.1 = s.1 := by omega
    rw [if_pos h1, sizeS_append]
    by_cases h2 : x.2.1 < s.2.1
    · by_cases h3 : s.2.2 < x.2.2
      · rw [if_pos h2, if_pos h3]; unfold sizeS sizeS lenS; dsimp only; omega
      · rw [if_pos h2, if_neg h3]; unfold sizeS sizeS lenS; dsimp only; omega
    · by_cases h3 : s.2.2 < x.2.2
      · rw [if_neg h2, if_pos h3]; unfold sizeS sizeS lenS; dsimp only; omega
      · rw [if_neg h2, if_neg h3]; unfold sizeS lenS; omega
theorem cutS_size {l : List Sp} {s : Sp} (hl : ∀ x ∈ l, rightS x) (hs : rightS s) : sizeS (cutS l s) = sizeS l - ovlS s l := by
  induction l with
  | nil => rfl
  | cons x l ih =>
    rw [show cutS (x :: l) s = cut1 s x ++ cutS l s from rfl, sizeS_append, cut1_size hs (hl x (List.mem_cons_self ..)), ih fun y hy => hl y (List.mem_cons_of_mem _ hy)]
    simp only [sizeS, ovlS]
    omega
theorem ovl_merge {s x y : Sp} (hs : rightS s) (hx : rightS x) (hy : rightS y) (h : ltS x y) (h1 : ¬ (x.1 < s.1 ∨ (x.1 = s.1 ∧ x.2.2 < s.2.1))) (h2 : ¬ (s.1 < x.1 ∨ s.2.2 < x.2.1)) : ovl (s.1, min s.2.1 x.2.1, max s.2.2 x.2.2) y = ovl s y := by
  unfold ovl
  unfold ltS rightS at *
  dsimp only
  split
  · omega
  · rfl
theorem ovlS_merge {s x : Sp} {l : List Sp} (hs : rightS s) (hx : rightS x) (hl : ∀ y ∈ l, rightS y) (h : ∀ y ∈ l, ltS x y) (h1 : ¬ (x.1 < s.1 ∨ (x.1 = s.1 ∧ x.2.2 < s.2.1))) (h2 : ¬ (s.1 < x.1 ∨ s.2.2 < x.2.1)) : ovlS (s.1, min s.2.1 x.2.1, max s.2.2 x.2.2) l = ovlS s l := by
  induction l with
  | nil => rfl
  | cons y l ih =>
    unfold ovlS
    rw [ovl_merge hs hx (hl y (List.mem_cons_self ..)) (h y (List.mem_cons_self ..)) h1 h2, ih (fun z hz => hl z (List.mem_cons_of_mem _ hz)) (fun z hz => h z (List.mem_cons_of_mem _ hz))]
theorem addLoop_size : ∀ (l a b : List Sp) (s : Sp), canonS l → rightS s → sizeS (addLoop l a b s) = sizeS a + sizeS b + lenS s + sizeS l - ovlS s l
  | [], a, b, s, _, _ => by
    unfold addLoop
    rw [sizeS_append]
    simp only [sizeS, ovlS]
    omega
  | x :: l, a, b, s, hl, hs => by
    obtain ⟨hx, hxl, hl'⟩ := hl
    have hr := canonS_right hl'
    unfold addLoop
    split
    · rename_i h
      rw [addLoop_size l _ b s hl' hs, sizeS_append]
      have h0 : ovl s x = 0 := by
        unfold ovl
        unfold rightS at *
        split <;> omega
      simp only [sizeS, ovlS, h0]
      omega
    · rename_i h
      split
      · rename_i h'
        rw [addLoop_size l a _ s hl' hs, sizeS_append]
        have h0 : ovl s x = 0 := by
          unfold ovl
          unfold rightS at *
          split <;> omega
        simp only [sizeS, ovlS, h0]
        omega
      · rename_i h'
        rw [addLoop_size l a b _ hl' (right_merge hs hx), ovlS_merge hs hx hr hxl h h']
        have h0 : lenS (s.1, min s.2.1 x.2.1, max s.2.2 x.2.2) = lenS s + lenS x - ovl s x := by
          unfold ovl lenS
          unfold rightS at *
          dsimp only
          rw [if_pos (by omega)]
          omega
        rw [h0]
        simp only [sizeS, ovlS]
        omega
theorem addS_size {l : List Sp} {s : Sp} (hl : canonS l) (hs : rightS s) : sizeS (addS l s) = lenS s + sizeS l - ovlS s l := by
  unfold addS
  rw [addLoop_size l [] [] s hl hs]
  simp only [sizeS]
  omega
/-- What a canonical list shares with a span is no more than the span. -/
theorem ovlS_le : ∀ (l : List Sp) (t f u : Int), canonS l → f ≤ u → ovlS (t, f, u) l ≤ u - f
  | [], t, f, u, _, h => by unfold ovlS; omega
  | x :: l, t, f, u, hl, h => by
    obtain ⟨hx, hxl, hl'⟩ := hl
    have hr := canonS_right hl'
    have hx' := hx
    unfold rightS at hx'
    by_cases h1 : x.1 = t
    · obtain ⟨f', hf'⟩ : ∃ f', min u (max f x.2.2) = f' := ⟨_, rfl⟩
      have he : ovlS (t, f, u) l = ovlS (t, f', u) l := by
        clear hl'
        induction l with
        | nil => rfl
        | cons y l ih =>
          have hy := hr y (List.mem_cons_self ..)
          have hxy := hxl y (List.mem_cons_self ..)
          unfold ovlS
          rw [ih (fun z hz => hxl z (List.mem_cons_of_mem _ hz)) (fun z hz => hr z (List.mem_cons_of_mem _ hz))]
          have : ovl (t, f, u) y = ovl (t, f', u) y := by
            unfold ovl
            unfold ltS rightS at *
            dsimp only
            split <;> omega
          rw [this]
      have ih := ovlS_le l t f' u hl' (by omega)
      rw [← he] at ih
      have h2 : ovl (t, f, u) x ≤ f' - f := by
        unfold ovl
        dsimp only
        rw [if_pos h1]
        omega
      unfold ovlS
      omega
    · have ih := ovlS_le l t f u hl' h
      have h2 : ovl (t, f, u) x = 0 := by
        unfold ovl
        rw [if_neg h1]
      unfold ovlS
      omega
theorem ovlS_split (l : List Sp) (t f p u : Int) (h1 : f ≤ p) (h2 : p < u) : ovlS (t, f, u) l = ovlS (t, f, p) l + ovlS (t, p, p + 1) l + ovlS (t, p + 1, u) l := by
  induction l with
  | nil => rfl
  | cons x l ih =>
    unfold ovlS
    rw [ih]
    have : x.2.1 ≤ x.2.2 ∨ x.2.2 < x.2.1 := by omega
    have h : ovl (t, f, u) x = ovl (t, f, p) x + ovl (t, p, p + 1) x + ovl (t, p + 1, u) x := by
      unfold ovl
      dsimp only
      split
      · omega
      · rfl
    omega
theorem ovlS_zero {l : List Sp} {s : Sp} (hl : ∀ x ∈ l, rightS x) (hs : rightS s) : ovlS s l = 0 ↔ ¬ meetsS l s := by
  induction l with
  | nil =>
    constructor
    · rintro _ ⟨x, hx, _⟩
      cases hx
    · intro _
      rfl
  | cons x l ih =>
    have hx := hl x (List.mem_cons_self ..)
    have ih := ih fun y hy => hl y (List.mem_cons_of_mem _ hy)
    have h0 := ovl_nonneg s x
    have h1 := ovlS_nonneg s l
    have h2 : ovl s x = 0 ↔ ¬ (x.1 = s.1 ∧ x.2.1 < s.2.2 ∧ s.2.1 < x.2.2) := by
      unfold ovl
      unfold rightS at *
      split <;> omega
    unfold ovlS
    constructor
    · rintro h ⟨y, hy, k⟩
      rcases List.mem_cons.1 hy with rfl | hy
      · exact h2.1 (by omega) k
      · exact ih.1 (by omega) ⟨y, hy, k⟩
    · intro h
      have h3 := h2.2 fun k => h ⟨x, List.mem_cons_self .., k⟩
      have h4 := ih.2 fun ⟨y, hy, k⟩ => h ⟨y, List.mem_cons_of_mem _ hy, k⟩
      omega
theorem ovlS_full {l : List Sp} {s : Sp} (hl : canonS l) (hs : rightS s) : ovlS s l = lenS s ↔ coversS l s := by
  have hs' := hs
  unfold rightS at hs'
  have hr := canonS_right hl
  constructor
  · intro h
    refine (coversS_iff hl hs).2 fun p ⟨_, h1, h2⟩ => Classical.byContradiction fun hn => ?_
    have h3 := ovlS_split l s.1 s.2.1 p s.2.2 h1 h2
    have h4 := ovlS_le l s.1 s.2.1 p hl h1
    have h5 := ovlS_le l s.1 (p + 1) s.2.2 hl (by omega)
    have h6 : ovlS (s.1, p, p + 1) l = 0 := by
      clear h3 h4 h5 h
      induction l with
      | nil => rfl
      | cons x l ih =>
        have hx := hl.1
        have hn1 : ¬ inS x s.1 p := fun k => hn ((hasS_cons ..).2 (.inl k))
        have hn2 : ¬ hasS l s.1 p := fun k => hn ((hasS_cons ..).2 (.inr k))
        unfold ovlS
        rw [ih hl.2.2 (canonS_right hl.2.2) hn2]
        unfold inS at hn1
        unfold rightS at hx
        have : ovl (s.1, p, p + 1) x = 0 := by
          unfold ovl
          dsimp only
          split <;> omega
        omega
    have e : ovlS s l = ovlS (s.1, s.2.1, s.2.2) l := rfl
    unfold lenS at h
    omega
  · rintro ⟨x, hx, h1, h2, h3⟩
    have h4 := ovlS_le l s.1 s.2.1 s.2.2 hl (by omega)
    have e : ovlS s l = ovlS (s.1, s.2.1, s.2.2) l := rfl
    have h5 : lenS s ≤ ovlS s l := by
      clear h4 e hl hr
      induction l with
      | nil => cases hx
      | cons y l ih =>
        have q1 := ovl_nonneg s y
        have q2 := ovlS_nonneg s l
        unfold ovlS
        rcases List.mem_cons.1 hx with rfl | hx
        · have : ovl s x = lenS s := by
            unfold ovl lenS
            rw [if_pos h1]
            omega
          omega
        · have := ih hx
          omega
    unfold lenS at *
    omega
theorem sizes {l : List Sp} {s : Sp} (hl : canonS l) (hs : rightS s) : sizeS (addS l s) - sizeS (cutS l s) = lenS s ∧ sizeS (cutS l s) ≤ sizeS l ∧ sizeS l ≤ sizeS (addS l s) ∧ (sizeS l = sizeS (addS l s) ↔ coversS l s) ∧ (sizeS l = sizeS (cutS l s) ↔ ¬ meetsS l s) := by
  have h1 := addS_size hl hs
  have h2 := cutS_size (canonS_right hl) hs
  have h3 := ovlS_nonneg s l
  have hs' := hs
  unfold rightS at hs'
  have h4 := ovlS_le l s.1 s.2.1 s.2.2 hl (by omega)
  have e : ovlS s l = ovlS (s.1, s.2.1, s.2.2) l := rfl
  have h5 := ovlS_full hl hs
  have h6 := ovlS_zero (canonS_right hl) hs
  unfold lenS at *
  refine ⟨by omega, by omega, by omega, ?_, ?_⟩
  · rw [← h5]; omega
  · rw [← h6]; omega

/-- Many spans added, one behind the other: the list of their points, whatever the order. -/
def addAll : List Sp → List Sp → List Sp
  | l, [] => l
  | l, s :: ss => addAll (addS l s) ss
theorem addAll_canon : ∀ {ss l : List Sp}, canonS l → (∀ s ∈ ss, rightS s) → canonS (addAll l ss)
  | [], _, h, _ => h
  | s :: ss, l, h, hr => by
    show canonS (addAll (addS l s) ss)
    exact addAll_canon (addS_canon h (hr s (List.mem_cons_self ..))) fun x hx => hr x (List.mem_cons_of_mem _ hx)
theorem addAll_has : ∀ {ss l : List Sp}, canonS l → (∀ s ∈ ss, rightS s) → ∀ t a, hasS (addAll l ss) t a ↔ hasS l t a ∨ hasS ss t a
  | [], l, _, _, t, a => by
    unfold addAll
    have := hasS_nil t a
    exact ⟨.inl, fun h => h.elim id fun h => absurd h this⟩
  | s :: ss, l, h, hr, t, a => by
    unfold addAll
    rw [addAll_has (addS_canon h (hr s (List.mem_cons_self ..))) fun x hx => hr x (List.mem_cons_of_mem _ hx), addS_has h (hr s (List.mem_cons_self ..)), hasS_cons, or_assoc]
theorem addAll_snoc : ∀ (ss l : List Sp) (s : Sp), addAll l (ss ++ [s]) = addS (addAll l ss) s
  | [], _, _ => rfl
  | x :: ss, l, s => addAll_snoc ss (addS l x) s
theorem addAll_same {ss tt : List Sp} (hs : ∀ s ∈ ss, rightS s) (ht : ∀ s ∈ tt, rightS s) (h : ∀ s, s ∈ ss ↔ s ∈ tt) : addAll [] ss = addAll [] tt := by
  refine canonS_ext (addAll_canon (l := []) trivial hs) (addAll_canon (l := []) trivial ht) fun t a => ?_
  rw [addAll_has (l := []) trivial hs, addAll_has (l := []) trivial ht]
  have e : hasS ss t a ↔ hasS tt t a := ⟨fun ⟨s, h1, h2⟩ => ⟨s, (h s).1 h1, h2⟩, fun ⟨s, h1, h2⟩ => ⟨s, (h s).2 h1, h2⟩⟩
  rw [e]
/-- What was added is covered and met; cut out, it is met no more; added again, the list is the same. -/
theorem once {l : List Sp} {s : Sp} (hl : canonS l) (hs : rightS s) (h : ∀ a, inS s s.1 a → hasS l s.1 a) : coversS l s ∧ meetsS l s ∧ ¬ meetsS (cutS l s) s ∧ addS (cutS l s) s = l := by
  have hs' := hs
  unfold rightS at hs'
  have h0 : inS s s.1 s.2.1 := ⟨rfl, Int.le_refl _, hs'.2.2.2.2⟩
  have hc := cutS_canon hl hs
  refine ⟨(coversS_iff hl hs).2 h, (meetsS_iff (canonS_right hl) hs).2 ⟨_, h0, h _ h0⟩, fun k => ?_, canonS_ext (addS_canon hc hs) hl fun t a => ?_⟩
  · obtain ⟨a, h1, h2⟩ := (meetsS_iff (canonS_right hc) hs).1 k
    exact ((cutS_has ..).1 h2).2 h1
  · rw [addS_has hc hs, cutS_has]
    constructor
    · rintro (k | k)
      · exact k.1
      · have e : s.1 = t := k.1
        subst e
        exact h a k
    · intro k
      by_cases hi : inS s t a
      · exact .inr hi
      · exact .inl ⟨k, hi⟩

end Go.Proofs.Ytlnmdepaobocnaa
