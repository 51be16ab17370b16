/- What Cut answers of bytes, of the program and of the document; the first 260 bytes tell it all. No statement is proved here. -/
import Derived.Test.YthmendcdfhlkkaaAduF
import Derived.Test.YthmendcdfhlkkaaRLaw
namespace Go.Proofs.Ythmendcdfhlkkaa
open Go.ChangeShapes Go.WideShapes Go.ChangeAt Go.RowKit
set_option linter.unusedVariables false
set_option linter.unusedSimpArgs false

/-- The code that Cut answers. -/
def cE (zs : List Int) : Int := if hE zs zs.length = 0 then (if (zs.length : Int) < 6 + wordAt zs 4 then 3 else 0) else hE zs zs.length
/-- How long the frame's pdu is, how many bytes the frame has, its numbers, its pdu. -/
def cM (zs : List Int) : Nat := if cE zs = 0 then (wordAt zs 4 - 1).toNat else 0
def cN (zs : List Int) : Nat := if cE zs = 0 then 7 + cM zs else 0
def cT (zs : List Int) : Int := if cE zs = 0 then wordAt zs 0 else 0
def cU (zs : List Int) : Int := if cE zs = 0 then zs.getD 6 0 else 0
def cP (zs : List Int) : List Int := (zs.drop 7).take (cM zs)

theorem hE_some (zs : List Int) (n : Nat) : hE zs n = 0 ∨ hE zs n = 2 ∨ hE zs n = 3 := by
  unfold hE
  split
  · exact .inr (.inr rfl)
  · split
    · split
      · exact .inr (.inr rfl)
      · exact .inl rfl
    · exact .inr (.inl rfl)

theorem ce_cases (zs : List Int) : (hE zs zs.length ≠ 0 ∧ cE zs = hE zs zs.length) ∨ (hE zs zs.length = 0 ∧ (zs.length : Int) < 6 + wordAt zs 4 ∧ cE zs = 3) ∨
    (hE zs zs.length = 0 ∧ cE zs = 0 ∧ wordAt zs 4 = (cM zs : Int) + 1 ∧ 7 + cM zs ≤ zs.length ∧ 1 ≤ cM zs ∧ cM zs ≤ 253 ∧ cN zs = 7 + cM zs) := by
  by_cases h : hE zs zs.length = 0
  · obtain ⟨_, _, g1, g2⟩ := hE_good h
    by_cases h2 : (zs.length : Int) < 6 + wordAt zs 4
    · exact .inr (.inl ⟨h, h2, by unfold cE; rw [if_pos h, if_pos h2]⟩)
    · have hc : cE zs = 0 := by unfold cE; rw [if_pos h, if_neg h2]
      have hm : cM zs = (wordAt zs 4 - 1).toNat := by unfold cM; rw [if_pos hc]
      have hn : cN zs = 7 + cM zs := by unfold cN; rw [if_pos hc]
      exact .inr (.inr ⟨h, hc, by omega, by omega, by omega, by omega, hn⟩)
  · exact .inl ⟨h, by unfold cE; rw [if_neg h]⟩

theorem ce_some (zs : List Int) : cE zs = 0 ∨ cE zs = 2 ∨ cE zs = 3 := by
  rcases ce_cases zs with ⟨_, h⟩ | ⟨_, _, h⟩ | ⟨_, h, _⟩
  · rw [h]; exact hE_some _ _
  · exact .inr (.inr h)
  · exact .inl h
theorem c_err {zs : List Int} (h : cE zs ≠ 0) : cM zs = 0 ∧ cN zs = 0 ∧ cT zs = 0 ∧ cU zs = 0 ∧ cP zs = [] := by
  have hm : cM zs = 0 := by unfold cM; rw [if_neg h]
  refine ⟨hm, by unfold cN; rw [if_neg h], by unfold cT; rw [if_neg h], by unfold cU; rw [if_neg h], by unfold cP; rw [hm]; rfl⟩
theorem c_ok {zs : List Int} (h : cE zs = 0) : cT zs = wordAt zs 0 ∧ cU zs = zs.getD 6 0 ∧ cN zs = 7 + cM zs ∧ wordAt zs 4 = (cM zs : Int) + 1 ∧ 7 + cM zs ≤ zs.length ∧ 1 ≤ cM zs ∧ cM zs ≤ 253 ∧ hE zs zs.length = 0 := by
  rcases ce_cases zs with ⟨h1, h2⟩ | ⟨_, _, h2⟩ | ⟨h1, _, h2, h3, h4, h5, h6⟩
  · exact absurd (h2.symm.trans h) h1
  · rw [h] at h2; cases h2
  · exact ⟨by unfold cT; rw [if_pos h], by unfold cU; rw [if_pos h], h6, h2, h3, h4, h5, h1⟩
theorem cN_le (zs : List Int) : cN zs ≤ zs.length := by
  by_cases h : cE zs = 0
  · have := c_ok h; omega
  · rw [(c_err h).2.1]; exact Nat.zero_le _
theorem cP_length (zs : List Int) : (cP zs).length = cM zs := by
  by_cases h : cE zs = 0
  · have := c_ok h; unfold cP; rw [List.length_take, List.length_drop]; omega
  · rw [(c_err h).2.2.2.2, (c_err h).1]; rfl

/-- What Cut leaves, with the code E. -/
def GotE (E : Int) (zs : List Int) (w : World) (e : Ending) (w' : World) : Prop := ∃ B d, e = .returned (.tuple #[.agg #[.int .i64 (cT zs), .int .i64 (cU zs), .slice B (cM zs) d], .int .i64 (cN zs : Int), .int .i64 E]) ∧
  w'.ownsRow w.heap.size 5 1 (.slice B (cM zs) d) (cM zs) ((cP zs).map (Value.int .u8)) ∧ Below w.heap.size w w'
/-- What Cut leaves. -/
def CutGot (zs : List Int) (w : World) (e : Ending) (w' : World) : Prop := GotE (cE zs) zs w e w'

theorem cutgot_err {zs : List Int} {w w' : World} {e : Ending} {E : Int} (hE : cE zs = E) (h0 : E ≠ 0) (h : e = .returned (.tuple #[.agg #[.int .i64 0, .int .i64 0, .slice none 0 0], .int .i64 0, .int .i64 E]) ∧ Below w.heap.size w w') : CutGot zs w e w' := by
  obtain ⟨rfl, hb⟩ := h
  subst hE
  obtain ⟨h1, h2, h3, h4, h5⟩ := c_err h0
  unfold CutGot GotE
  rw [h1, h2, h3, h4, h5]
  exact ⟨none, 0, rfl, own_none _ _ _, hb⟩

section
variable (A : Option Addr) (n c : Nat) (zs : List Int) (w : World)

theorem acut_any (hr : Row .u8 w w.heap.size A n zs) (hx : Bytes8 zs) (hn : n ≤ 100000) (hc : n ≤ c) : Calls Try.prog 128 #[.slice A n c] w (CutGot zs w) := by
  obtain rfl : zs.length = n := hr.1
  rcases ce_cases zs with ⟨h1, h2⟩ | ⟨h1, h2, h3⟩ | ⟨h1, h2, h3, h4, h5, h6, h7⟩
  · exact (acut_err A _ c zs w _ hr hx hn rfl h1).mono fun e w' h => cutgot_err h2 h1 h
  · exact (acut_more A _ c zs w hr hx hn h1 h2).mono fun e w' h => cutgot_err h3 (by decide) h
  · refine (acut_ok A _ c zs w (cM zs) hr hx hn hc h1 h3 h4).mono ?_
    rintro e w' ⟨g, rfl, hg, hw, hb⟩
    obtain ⟨t1, t2, _⟩ := c_ok h2
    unfold CutGot GotE
    rw [t1, t2, h7, h2]
    exact ⟨_, _, rfl, own_whole hw (Nat.le_of_lt hg) (cP_length zs) (by omega), hb⟩

end

/-- The first 260 bytes tell it all. -/
theorem he_take (zs : List Int) : hE (zs.take 260) (zs.take 260).length = hE zs zs.length := by
  have hl : (zs.take 260).length = min 260 zs.length := List.length_take
  have hg : hGood (zs.take 260) ↔ hGood zs := by unfold hGood; rw [wa_take zs 260 2 (by omega), wa_take zs 260 4 (by omega)]
  unfold hE
  rw [hl]
  by_cases h6 : zs.length < 6
  · rw [if_pos (by omega), if_pos h6]
  · rw [if_neg (by omega), if_neg h6]
    by_cases hh : hGood zs
    · rw [if_pos (hg.2 hh), if_pos hh]
      by_cases h7 : zs.length = 6
      · rw [if_pos (by omega), if_pos h7]
      · rw [if_neg (by omega), if_neg h7]
    · rw [if_neg (fun e => hh (hg.1 e)), if_neg hh]
theorem ce_take (zs : List Int) : cE (zs.take 260) = cE zs := by
  have hl : (zs.take 260).length = min 260 zs.length := List.length_take
  unfold cE
  rw [he_take, wa_take zs 260 4 (by omega)]
  by_cases h : hE zs zs.length = 0
  · obtain ⟨_, _, g1, g2⟩ := hE_good h
    rw [if_pos h, if_pos h, hl]
    by_cases h2 : (zs.length : Int) < 6 + wordAt zs 4
    · rw [if_pos h2, if_pos (by omega)]
    · rw [if_neg h2, if_neg (by omega)]
  · rw [if_neg h, if_neg h]
theorem c_take (zs : List Int) : cM (zs.take 260) = cM zs ∧ cN (zs.take 260) = cN zs ∧ cT (zs.take 260) = cT zs ∧ cU (zs.take 260) = cU zs ∧ cP (zs.take 260) = cP zs := by
  have hm : cM (zs.take 260) = cM zs := by unfold cM; rw [ce_take, wa_take zs 260 4 (by omega)]
  refine ⟨hm, by unfold cN; rw [ce_take, hm], by unfold cT; rw [ce_take, wa_take zs 260 0 (by omega)], ?_, ?_⟩
  · unfold cU
    rw [ce_take]
    congr 1
    simp [List.getD_eq_getElem?_getD, List.getElem?_take]
  · unfold cP
    rw [hm]
    by_cases h : cE zs = 0
    · have := c_ok h
      rw [List.drop_take, List.take_take]
      congr 1
      omega
    · rw [(c_err h).1]; rfl
theorem cutgot_take {zs : List Int} {w w' : World} {e : Ending} (h : CutGot (zs.take 260) w e w') : CutGot zs w e w' := by
  unfold CutGot GotE at h
  unfold CutGot GotE
  obtain ⟨h1, h2, h3, h4, h5⟩ := c_take zs
  rw [ce_take, h1, h2, h3, h4, h5] at h
  exact h

/-- Frames ahead of other bytes. -/
theorem c_frame (t u : Int) (zs ys : List Int) (n : Nat) (hz : zs.length = n) (h : hFits t (1 + n) u) :
    cE (headOf t (1 + n) u ++ zs ++ ys) = 0 ∧ cM (headOf t (1 + n) u ++ zs ++ ys) = n ∧ cN (headOf t (1 + n) u ++ zs ++ ys) = 7 + n ∧ cT (headOf t (1 + n) u ++ zs ++ ys) = t ∧ cU (headOf t (1 + n) u ++ zs ++ ys) = u ∧ cP (headOf t (1 + n) u ++ zs ++ ys) = zs := by
  obtain ⟨f0, f2, f4, f6⟩ := frame_words t (1 + n) u (zs ++ ys) h
  rw [← List.append_assoc] at f0 f2 f4 f6
  have hl : (headOf t (1 + n) u ++ zs ++ ys).length = 7 + n + ys.length := by rw [List.length_append, List.length_append, hz]; rfl
  have he := hE_of (headOf t (1 + n) u ++ zs ++ ys) (headOf t (1 + n) u ++ zs ++ ys).length (1 + n) (fun _ => f2) (fun _ => f4) h.2.1.1 h.2.1.2
  rw [if_neg (by omega)] at he
  have hc : cE (headOf t (1 + n) u ++ zs ++ ys) = 0 := by unfold cE; rw [if_pos he, f4, if_neg (by omega)]
  obtain ⟨k1, k2, k3, k4, _⟩ := c_ok hc
  have hm : cM (headOf t (1 + n) u ++ zs ++ ys) = n := by omega
  refine ⟨hc, hm, by omega, by rw [k1, f0], by rw [k2, f6], ?_⟩
  unfold cP
  rw [hm]
  have e : (headOf t (1 + n) u ++ zs ++ ys).drop 7 = zs ++ ys := by rw [List.append_assoc]; rfl
  rw [e, ← hz, List.take_left]
/-- A front of a frame: more are needed. -/
theorem c_front (t u : Int) (zs : List Int) (n k : Nat) (hz : zs.length = n) (h : hFits t (1 + n) u) (hk : k < 7 + n) : cE ((headOf t (1 + n) u ++ zs).take k) = 3 := by
  obtain ⟨f0, f2, f4, f6⟩ := frame_words t (1 + n) u zs h
  have hl : ((headOf t (1 + n) u ++ zs).take k).length = k := by
    rw [List.length_take, List.length_append, hz, show (headOf t (1 + (n : Int)) u).length = 7 from rfl]
    omega
  have he := hE_of ((headOf t (1 + n) u ++ zs).take k) k (1 + n) (fun h6 => by rw [wa_take _ _ _ (by omega)]; exact f2) (fun h6 => by rw [wa_take _ _ _ (by omega)]; exact f4) h.2.1.1 h.2.1.2
  unfold cE
  rw [hl, he]
  by_cases h7 : k < 7
  · rw [if_pos h7]; rfl
  · rw [if_neg h7, if_pos rfl, if_pos (by rw [wa_take _ _ _ (by omega), f4]; omega)]

end Go.Proofs.Ythmendcdfhlkkaa
