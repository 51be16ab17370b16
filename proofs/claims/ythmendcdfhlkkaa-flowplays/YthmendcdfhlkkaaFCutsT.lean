/- What the walk of FlowCuts stands on: fronts of frames; rows that a flow does not hold. No statement is proved here. -/
import Derived.Test.YthmendcdfhlkkaaJFlowBad6
namespace Go.Proofs.Ythmendcdfhlkkaa
open Go.ChangeShapes Go.WideShapes Go.ChangeAt Go.RowKit
set_option linter.unusedVariables false
set_option linter.unusedSimpArgs false

/-- What waits of a row of frames is a front of a frame, or has one ahead. -/
theorem front_or (fr : Nat → List Int) (a c : Nat) (t u : Int) (zs : List Int) (hfr : 0 < c → fr a = frB t u zs) (h1 : 1 ≤ zs.length) (h2 : zs.length ≤ 253) (ht : 0 ≤ t ∧ t ≤ 65535) (hu : 0 ≤ u ∧ u ≤ 255) (qs bs : List Int) (h : qs ++ bs = fcat fr a c) :
    (cE qs = 3 ∧ (bs = [] → c = 0 ∧ qs = [])) ∨ (0 < c ∧ ∃ ys, qs = frB t u zs ++ ys ∧ ys ++ bs = fcat fr (a + 1) (c - 1)) := by
  cases c with
  | zero =>
    obtain ⟨h3, h4⟩ := List.append_eq_nil_iff.1 (show qs ++ bs = [] from h)
    subst h3
    exact .inl ⟨rfl, fun _ => ⟨rfl, rfl⟩⟩
  | succ c =>
    have hf := hfr (by omega)
    have h' : qs ++ bs = frB t u zs ++ fcat fr (a + 1) c := by rw [h, ← hf]; rfl
    have hl := frB_length t u zs
    by_cases hq : qs.length < 7 + zs.length
    · left
      have hqs : qs = (frB t u zs).take qs.length := by
        have := congrArg (List.take qs.length) h'
        rw [List.take_left, List.take_append_of_le_length (by omega)] at this
        exact this
      refine ⟨?_, fun hb => ?_⟩
      · rw [hqs]
        unfold frB
        rw [show ((zs.length : Int) + 1) = 1 + (zs.length : Int) by omega]
        exact c_front t u zs zs.length _ rfl ⟨ht, by omega, hu⟩ hq
      · subst hb
        rw [List.append_nil] at h'
        have := congrArg List.length h'
        rw [List.length_append, hl] at this
        omega
    · right
      refine ⟨by omega, qs.drop (7 + zs.length), ?_, ?_⟩
      · have := congrArg (List.take (7 + zs.length)) h'
        rw [List.take_append_of_le_length (by omega), ← hl, List.take_left] at this
        rw [← hl]
        conv => rhs; lhs; rw [← this]
        exact (List.take_append_drop _ _).symm
      · have := congrArg (List.drop (7 + zs.length)) h'
        rw [List.drop_append_of_le_length (by omega), ← hl, List.drop_left] at this
        rw [← hl]
        exact this

theorem RowOff.take {S : Nat → Prop} {w : World} {A : Option Addr} {m : Nat} {zs : List Int} (h : RowOff w S A m zs) (k : Nat) (hk : k ≤ m) : RowOff w S A k (zs.take k) :=
  ⟨by rw [List.length_take]; have := h.1; omega, fun h0 => by
    obtain ⟨b, off, e, hb, hs, hc⟩ := h.2 (by omega)
    refine ⟨b, off, e, hb, hs, fun j hj => ?_⟩
    rw [hc j (by omega)]
    simp [List.getD_eq_getElem?_getD, List.getElem?_take, hj]⟩
theorem RowOff.drop {S : Nat → Prop} {w : World} {b off m : Nat} {zs : List Int} (h : RowOff w S (some ⟨b, off, none⟩) m zs) (k : Nat) (hk : k ≤ m) : RowOff w S (some ⟨b, off + k, none⟩) (m - k) (zs.drop k) :=
  ⟨by rw [List.length_drop]; have := h.1; omega, fun h0 => by
    obtain ⟨b', off', e, hb, hs, hc⟩ := h.2 (by omega)
    injection e with e
    injection e with e1 e2
    subst e1 e2
    refine ⟨b, off + k, rfl, hb, hs, fun j hj => ?_⟩
    rw [Nat.add_assoc, hc (k + j) (by omega)]
    simp [List.getD_eq_getElem?_getD, List.getElem?_drop]⟩
theorem RowOff.nothing {S : Nat → Prop} {w : World} {A B : Option Addr} {m : Nat} {zs : List Int} (h : RowOff w S A m zs) (k : Nat) (hk : m = k) : RowOff w S B (m - k) (zs.drop k) :=
  ⟨by rw [List.length_drop]; have := h.1; omega, fun h0 => by omega⟩
/-- A flow's places may have been made anew: another row is none of them. -/
theorem RowOff.next {w w' : World} {g p p' : Nat} {A : Option Addr} {n : Nat} {zs : List Int} (h : RowOff w (GP g p) A n zs) (ho : Off (GP g p) w w') (hp : p' = p ∨ w.heap.size ≤ p') : RowOff w' (GP g p') A n zs :=
  ⟨h.1, fun h0 => by
    obtain ⟨b, off, e, hb, hs, hc⟩ := h.2 h0
    refine ⟨b, off, e, Nat.lt_of_lt_of_le hb ho.size, fun hg => ?_, fun j hj => (ho.cell (p := ⟨b, off + j, none⟩) hb hs).trans (hc j hj)⟩
    rcases hg with hg | hg
    · exact hs (.inl hg)
    · rcases hp with hp | hp
      · exact hs (.inr (by omega))
      · omega⟩
theorem RowOff.below {S : Nat → Prop} {w w' : World} {A : Option Addr} {n : Nat} {zs : List Int} (h : RowOff w S A n zs) (hb : Below w.heap.size w w') : RowOff w' S A n zs := h.off (Off.of_below hb) (T := fun _ => False) (fun k hk => hk.elim)

/-- What stands at the head of a round of FlowCuts. -/
structure CutsInv (fr : Nat → List Int) (K : Nat) (w : World) (g a : Nat) (A : Option Addr) (m d : Nat) (qs bs : List Int) (p f : Nat) (wr : World) : Prop where
  aK : a ≤ K
  cat : qs ++ bs = fcat fr a (K - a)
  fl : FAt wr g p 65536 f qs false
  row : RowOff wr (GP g p) A m bs
  cap : m ≤ d
  pw : w.heap.size ≤ p
  bel : Below w.heap.size w wr

/-- Either no frame is whole, or one is ahead. -/
theorem CutsInv.or {ks : List Int} {fs : Nat → List Int} {fr : Nat → List Int} {K : Nat} {w : World} {g a : Nat} {A : Option Addr} {m d : Nat} {qs bs : List Int} {p f : Nat} {wr : World} (h : CutsInv fr K w g a A m d qs bs p f wr) (hK : K ≤ 12)
    (HFR : ∀ i, fr i = frB i (ks.getD i 0 % 256) (fs i)) (HZ : ∀ i, i < K → Bytes8 (fs i) ∧ 4 ≤ (fs i).length ∧ (fs i).length ≤ 252) :
    (cE qs = 3 ∧ (bs = [] → a = K ∧ qs = [])) ∨ (a < K ∧ ∃ ys, qs = frB a (ks.getD a 0 % 256) (fs a) ++ ys ∧ ys ++ bs = fcat fr (a + 1) (K - (a + 1))) := by
  have h1 := h.aK
  rcases Nat.eq_or_lt_of_le h1 with h2 | h2
  · have h3 := h.cat
    rw [h2, Nat.sub_self] at h3
    obtain ⟨h4, h5⟩ := List.append_eq_nil_iff.1 (show qs ++ bs = [] from h3)
    subst h4
    exact .inl ⟨rfl, fun _ => ⟨h2, rfl⟩⟩
  · obtain ⟨_, z2, z3⟩ := HZ a h2
    rcases front_or fr a (K - a) a (ks.getD a 0 % 256) (fs a) (fun _ => HFR a) (by omega) (by omega) (by omega) (by omega) qs bs h.cat with ⟨e, k⟩ | ⟨e, ys, k1, k2⟩
    · exact .inl ⟨e, fun hb => by have := (k hb).1; omega⟩
    · exact .inr ⟨h2, ys, k1, by rw [k2]; rfl⟩
theorem CutsInv.below {fr : Nat → List Int} {K : Nat} {w : World} {g a : Nat} {A : Option Addr} {m d : Nat} {qs bs : List Int} {p f : Nat} {wr wx : World} (h : CutsInv fr K w g a A m d qs bs p f wr) (hb : Below wr.heap.size wr wx) : CutsInv fr K w g a A m d qs bs p f wx :=
  ⟨h.aK, h.cat, h.fl.below hb, h.row.below hb, h.cap, h.pw, h.bel.trans (hb.mono h.bel.size)⟩
/-- After a Feed of the first N bytes. -/
theorem CutsInv.fed {fr : Nat → List Int} {K : Nat} {w : World} {g a : Nat} {A : Option Addr} {m d N : Nat} {qs bs : List Int} {p f : Nat} {wr wx : World} (h : CutsInv fr K w g a A m d qs bs p f wr) (hg : w.heap.size ≤ g) (hN : N ≤ m)
    (hx : FAt wx g p 65536 f (qs ++ (bs.take N).take N) false) (ho : Off (GP g p) wr wx) (A' : Option Addr) (hA : (d = N ∧ A' = A) ∨ (A' = A.map fun x => x.add N)) : CutsInv fr K w g a A' (m - N) (d - N) (qs ++ bs.take N) (bs.drop N) p f wx := by
  rw [List.take_take, Nat.min_self] at hx
  refine ⟨h.aK, by rw [List.append_assoc, List.take_append_drop]; exact h.cat, hx, ?_, by have := h.cap; omega, h.pw, below_gp h.bel h.bel.size ho hg h.pw⟩
  have hr := h.row.next (p' := p) ho (.inl rfl)
  by_cases hmN : m = N
  · exact hr.nothing N hmN
  · have hc := h.cap
    rcases hA with ⟨h1, _⟩ | h1
    · omega
    · obtain ⟨b, off, e, hb, hs, hcc⟩ := hr.2 (by omega)
      subst e
      rw [h1]
      show RowOff wx (GP g p) (some (Addr.add ⟨b, off, none⟩ N)) (m - N) (bs.drop N)
      rw [add_none]
      exact hr.drop N hN

end Go.Proofs.Ythmendcdfhlkkaa
