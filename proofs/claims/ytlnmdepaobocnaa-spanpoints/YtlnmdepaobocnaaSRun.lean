/- What the laws of spans share: worlds that follow one another. No statement is proved here. -/
import Derived.Test.YtlnmdepaobocnaaSLaw2
import Derived.Test.YtlnmdepaobocnaaSLent
import Derived.Test.YtlnmdepaobocnaaPSize
import Derived.Test.YtlnmdepaobocnaaPMeet
import Derived.Test.YtlnmdepaobocnaaPCanon
import Derived.Test.YtlnmdepaobocnaaRCut
import Derived.Deep.RegionHeld3
namespace Go.Proofs.Ytlnmdepaobocnaa
open Go.ChangeShapes Go.WideShapes Go.ChangeAt Go.RowKit
set_option linter.unusedVariables false
set_option linter.unusedSimpArgs false

theorem below_step {a b c : World} (h2 : Below b.heap.size b c) (h1 : Below a.heap.size a b) : Below a.heap.size a c := h1.trans (h2.mono h1.size)
theorem below_drew1 (a : World) : Below a.heap.size a a.drew := (Below.refl _ _).drew
/-- A list of the call's own, at hand in every world that follows. -/
theorem SO.at_sl {w X : World} {b n c : Nat} {A : Option Addr} {l : List Sp} (h : SO w b (.slice A n c) n l) (hb : Below w.heap.size w X) : SL X A n l := (h.keep hb).sl
/-- The numbers by which a slice of ints stands. -/
theorem in64_of {zs : List Int} (h : ∀ k ∈ zs, -9223372036854775808 ≤ k ∧ k ≤ 9223372036854775807) : In64S zs := h

theorem addLoop_len : ∀ (l a b : List Sp) (s : Sp), (addLoop l a b s).length ≤ l.length + a.length + b.length + 1
  | [], a, b, s => by unfold addLoop; simp; omega
  | x :: l, a, b, s => by
    unfold addLoop
    split
    · have := addLoop_len l (a ++ [x]) b s
      simp at this ⊢
      omega
    · split
      · have := addLoop_len l a (b ++ [x]) s
        simp at this ⊢
        omega
      · have := addLoop_len l a b (s.1, min s.2.1 x.2.1, max s.2.2 x.2.2)
        simp at this ⊢
        omega
theorem addS_len (l : List Sp) (s : Sp) : (addS l s).length ≤ l.length + 1 := by
  have := addLoop_len l [] [] s
  simpa [addS] using this
theorem cut1_len (s x : Sp) : (cut1 s x).length ≤ 2 := by
  unfold cut1
  split
  · simp
  · split <;> split <;> simp
theorem cutS_len : ∀ (l : List Sp) (s : Sp), (cutS l s).length ≤ 2 * l.length
  | [], s => by simp [cutS]
  | x :: l, s => by
    have h1 := cutS_len l s
    have h2 := cut1_len s x
    unfold cutS at h1 ⊢
    rw [List.flatMap_cons, List.length_append, List.length_cons]
    omega
theorem size_one (t f u : Int) : sizeS [(t, f, u)] = u - f := by simp [sizeS, lenS]

theorem sl_of_whole {w : World} {g n : Nat} {T : TypeId} {l : List Sp} {vs : List Value} (h : WholeV w g T (sps l ++ vs)) (hn : l.length = n) : SL w (some ⟨g, 0, none⟩) n l := by
  refine ⟨by rw [sps_length]; omega, fun _ => ⟨g, 0, rfl, h.lt, fun j hj => ?_⟩⟩
  rw [Nat.zero_add]
  refine (h.cell j).trans ?_
  rw [List.getElem?_append_left (by rw [sps_length]; omega)]
theorem same_below (A B : Option Addr) (n c d : Nat) (l : List Sp) (w : World) (ha : SL w A n l) (hb : SL w B n l) (hn : n ≤ 1000000) :
    Calls Try.prog 22 #[.slice A n c, .slice B n d] w fun e w' => e = .returned (.bool true) ∧ Below w.heap.size w w' :=
  (samespans_any A B n c d l w ha hb hn).mono fun e w' ⟨he, k, hk⟩ => ⟨he, by rw [hk]; exact below_drewN (Below.refl _ _) k⟩

end Go.Proofs.Ytlnmdepaobocnaa
