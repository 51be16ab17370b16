/- Joined: Iden1 Iden2. -/
import Derived.Test.YtokljdkbheogoaaObjs
import Derived.Test.YtokljdkbheogoaaTSpec
namespace Go.Proofs.Ytokljdkbheogoaa
open Go.ChangeShapes Go.WideShapes Go.ChangeAt Go.RowKit
set_option linter.unusedVariables false
set_option linter.unusedSimpArgs false

/-- How many objects, from the first on, have Ids that are not above this one. -/
def upN (os : List Ob) (id : Int) : Nat := (os.takeWhile fun o => decide (o.1 ≤ id)).length
theorem upN_le (os : List Ob) (id : Int) : upN os id ≤ os.length := by
  unfold upN
  induction os with
  | nil => simp
  | cons o os ih =>
    rw [List.takeWhile_cons]
    split <;> simp_all
theorem upN_in (os : List Ob) (id : Int) (k : Nat) (hk : k < upN os id) : (os.getD k ob0).1 ≤ id := by
  induction os generalizing k with
  | nil => simp [upN] at hk
  | cons o os ih =>
    unfold upN at hk
    rw [List.takeWhile_cons] at hk
    split at hk
    · rename_i ho
      cases k with
      | zero => simpa using ho
      | succ k => exact ih k (by unfold upN; simpa using hk)
    · simp at hk
theorem upN_out (os : List Ob) (id : Int) (hk : upN os id < os.length) : id < (os.getD (upN os id) ob0).1 := by
  induction os with
  | nil => simp at hk
  | cons o os ih =>
    by_cases ho : o.1 ≤ id
    · have he : upN (o :: os) id = upN os id + 1 := by simp [upN, List.takeWhile_cons, ho]
      rw [he] at hk ⊢
      exact ih (by simpa using hk)
    · have he : upN (o :: os) id = 0 := by simp [upN, List.takeWhile_cons, ho]
      rw [he]
      simpa using ho
/-- The level that the document says. -/
def levelOf (os : List Ob) : Int := if upN os 127 < os.length then 131 else if upN os 2 < os.length then 130 else 129

section
variable {w w' : World} {B B' : Nat} {A : Option Addr} {n : Nat} {os : List Ob}
theorem OL.take (h : OL w B A n os) (m : Nat) (hm : m ≤ n) : OL w B A m (os.take m) := by
  have hl := h.len
  refine ⟨by rw [obs_length, List.length_take]; omega, fun h0 => ?_⟩
  obtain ⟨b, off, hA, hb, hc⟩ := h.2 (by omega)
  refine ⟨b, off, hA, hb, fun j hj => ?_⟩
  rw [hc j (by omega), obs_take, List.getElem?_take, if_pos (by omega)]
theorem OL.drop {b off : Nat} (h : OL w B (some ⟨b, off, none⟩) n os) (i : Nat) (hi : i ≤ n) : OL w B (some ⟨b, off + i * 2, none⟩) (n - i) (os.drop i) := by
  have hl := h.len
  refine ⟨by rw [obs_length, List.length_drop]; omega, fun h0 => ?_⟩
  obtain ⟨b', off', hA, hb, hc⟩ := h.2 (by omega)
  injection hA with hA
  injection hA with e1 e2
  subst e1 e2
  refine ⟨b, _, rfl, hb, fun j hj => ?_⟩
  rw [Nat.add_assoc, hc _ (by omega), obs_drop, List.getElem?_drop, Nat.mul_comm i 2]
end

/-- How many bytes objects take in a reply. -/
def used (os : List Ob) : Nat := (os.map fun o => 2 + o.2.size).sum
theorem used_cons (o : Ob) (os : List Ob) : used (o :: os) = 2 + o.2.size + used os := by simp [used]
theorem used_append (os ps : List Ob) : used (os ++ ps) = used os + used ps := by simp [used]
theorem used_take (os : List Ob) (k : Nat) (hk : k < os.length) : used (os.take (k + 1)) = used (os.take k) + (2 + (os.getD k ob0).2.size) := by
  rw [List.take_succ_eq_append_getElem hk, used_append, used_cons]
  simp [used, hk]
theorem used_le (os : List Ob) (k : Nat) : used (os.take k) ≤ used os := by
  have h := used_append (os.take k) (os.drop k)
  rw [List.take_append_drop] at h
  omega
/-- They fit into one. -/
def fitP (os : List Ob) : Prop := (∀ o ∈ os, 0 ≤ o.1 ∧ o.1 ≤ 255) ∧ used os ≤ 246
instance (os : List Ob) : Decidable (fitP os) := by unfold fitP; infer_instance

theorem fits_any (A : Option Addr) (n c : Nat) (os : List Ob) (w : World) (b : Bool) (hl : OL w w.heap.size A n os) (hn : n ≤ 100000) (hz : ∀ o ∈ os, o.2.size ≤ 1000000) (hb : decide (fitP os) = b) : Fits w A n c b := by
  intro W hW
  have HL := Lib.hid (hl.below hW)
  have HZ := Lib.hid hz
  have HB := Lib.hid hb
  clear hl hz hb hW
  go_enter Try.func90, Try.ntmps90
  go_wp2
  go_loopw [3, 8] (fun r i wr => ∃ k : Nat, k ≤ n ∧ i = .int .i64 (k : Int) ∧ r = .int .i64 (246 - (used (os.take k) : Int)) ∧ Hid (used (os.take k) ≤ 246) ∧ Hid (∀ o ∈ os.take k, 0 ≤ o.1 ∧ o.1 ≤ 255) ∧ Hid (Below W.heap.size W wr)) (fun _ i _ => n - (intOf i).toNat)
  case atStart => exact ⟨0, by omega, rfl, by simp [used], by simp [used, Hid], Lib.hid (by simp), Below.refl _ _⟩
  case round =>
    obtain ⟨k, hk, rfl, rfl, HU, HI, HBW⟩ := hrel
    by_cases hlt : k < n
    · have hi : (k : Int) < (n : Int) := by omega
      obtain ⟨b1, off, rfl, hb1, hc1, hc2⟩ := (HL.out.below HBW.out).at_ k hlt
      obtain ⟨x, hx⟩ : ∃ x, (os.getD k ob0).1 = x := ⟨_, rfl⟩
      obtain ⟨s, hs⟩ : ∃ s, (os.getD k ob0).2 = s := ⟨_, rfl⟩
      rw [hx] at hc1
      rw [hs] at hc2
      have hlen := HL.out.len
      have hmem : os.getD k ob0 ∈ os := by
        rw [List.getD_eq_getElem?_getD, List.getElem?_eq_getElem (by omega)]
        exact List.getElem_mem _
      have hsz : s.size ≤ 1000000 := by rw [← hs]; exact HZ.out _ hmem
      have hu1 := HU.out
      have HT := Lib.hid (used_take os k (by omega))
      have HM := Lib.hid hmem
      obtain ⟨U, hU⟩ : ∃ U, used (os.take k) = U := ⟨_, rfl⟩
      rw [hU] at hu1
      have HUE := Lib.hid hU
      have HX := Lib.hid hx
      have HS := Lib.hid hs
      have HLE := Lib.hid hlen
      rw [hU]
      clear hU hx hs hlen hmem
      by_cases hfit : 246 < U + (2 + s.size)
      · have hd : 246 - (U : Int) - 2 < (s.size : Int) := by omega
        go_wp2
        go_ret
        refine ⟨ret_bool ?_, HBW.out.alloc HBW.out.size _⟩
        rw [← HB.out]
        refine (decide_eq_false fun hf => ?_).symm
        have h1 := used_le os (k + 1)
        have h2 := HT.out
        rw [HUE.out, HS.out] at h2
        have h3 := hf.2
        omega
      · have hd : ¬ 246 - (U : Int) - 2 < (s.size : Int) := by omega
        by_cases hby : 0 ≤ x ∧ x ≤ 255
        · have HY := Lib.hid (isbyte_lit x true · (decide_eq_true hby))
          go_wp2_with (go_at_call 56; refine (HY.out _).mono ?_; rintro e w' ⟨rfl, rfl⟩)
          go_roundw
          case rel =>
            refine ⟨k + 1, by omega, by go_num, ?_, ?_, ?_, Lib.hid (HBW.out.alloc HBW.out.size _)⟩
            · rw [HT.out, HUE.out, HS.out]
              congr 1
              omega
            · apply Lib.hid
              rw [HT.out, HUE.out, HS.out]
              omega
            · apply Lib.hid
              intro o ho
              rw [List.take_succ_eq_append_getElem (by rw [HLE.out]; exact hlt)] at ho
              rcases List.mem_append.1 ho with h | h
              · exact HI.out o h
              · have : o = os.getD k ob0 := by
                  rw [List.mem_singleton.1 h, List.getD_eq_getElem?_getD, List.getElem?_eq_getElem (by rw [HLE.out]; exact hlt)]
                  rfl
                rw [this, HX.out]
                exact hby
          case measure => simp [intOf]; omega
        · have HY := Lib.hid (isbyte_lit x false · (decide_eq_false hby))
          have HBY := Lib.hid hby
          clear hby
          go_wp2_with (go_at_call 56; refine (HY.out _).mono ?_; rintro e w' ⟨rfl, rfl⟩)
          go_ret
          refine ⟨ret_bool ?_, HBW.out.alloc HBW.out.size _⟩
          rw [← HB.out]
          refine (decide_eq_false fun hf => HBY.out ?_).symm
          rw [← HX.out]
          exact hf.1 _ HM.out
    · obtain rfl : n = k := by omega
      go_wp2
      go_ret
      refine ⟨ret_bool ?_, HBW.out⟩
      rw [← HB.out]
      have hlen := HL.out.len
      have h1 := HU.out
      have h2 := HI.out
      rw [← hlen, List.take_length] at h1 h2
      exact (decide_eq_true ⟨h2, h1⟩).symm

end Go.Proofs.Ytokljdkbheogoaa
