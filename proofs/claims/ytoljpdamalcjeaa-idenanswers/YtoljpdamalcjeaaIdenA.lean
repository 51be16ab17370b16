/- Asked on from where it was told to go on; lists of objects held against each other. -/
import Derived.Test.YtoljpdamalcjeaaAwake7
namespace Go.Proofs.Ytoljpdamalcjeaa
open Go.ChangeShapes Go.WideShapes Go.ChangeAt Go.RowKit
set_option linter.unusedVariables false
set_option linter.unusedSimpArgs false

theorem goodL.lt {os : List Ob} (h : goodL os) (k j : Nat) (hkj : k < j) (hj : j < os.length) : (os.getD k ob0).1 < (os.getD j ob0).1 := by
  induction j with
  | zero => omega
  | succ j ih =>
    have h1 := h.rise j hj
    rcases Nat.lt_or_ge k j with h2 | h2
    · have := ih h2 (by omega); omega
    · obtain rfl : k = j := by omega
      exact h1
theorem goodL.in_ {os : List Ob} (h : goodL os) (id : Int) (k : Nat) (hk : k < os.length) : (os.getD k ob0).1 ≤ id ↔ k < upN os id := by
  constructor
  · intro hle
    rcases Nat.lt_or_ge k (upN os id) with h2 | h2
    · exact h2
    · have h3 := upN_out os id (by omega)
      rcases Nat.lt_or_ge (upN os id) k with h4 | h4
      · have := h.lt _ _ h4 hk; omega
      · have : upN os id = k := by omega
        rw [this] at h3; omega
  · exact upN_in os id k
theorem goodL.getD_mem {os : List Ob} (k : Nat) (hk : k < os.length) : os.getD k ob0 ∈ os := by
  rw [List.getD_eq_getElem?_getD, List.getElem?_eq_getElem hk]
  exact List.getElem_mem _
theorem goodL.up3 {os : List Ob} (h : goodL os) (id : Int) (hid : 2 ≤ id) : 3 ≤ upN os id := by
  have := (h.in_ id 2 (by have := h.l3; omega)).1 (by rw [h.z2]; exact hid)
  omega
theorem roomOf_pos (os : List Ob) (h : 0 < os.length) (hb : ∀ o ∈ os, 0 ≤ o.1 ∧ o.1 ≤ 255) (hs : ∀ o ∈ os, o.2.size ≤ 244) : 1 ≤ roomOf os := by
  cases os with
  | nil => simp at h
  | cons o os =>
    unfold roomOf roomG
    rw [if_pos ⟨hb o (by simp), by have := hs o (by simp); omega⟩]
    omega

theorem gOf_pos (co : Int) (h : 1 ≤ co ∧ co ≤ 3) : 2 ≤ gOf co ∧ gOf co ≤ 255 := by
  unfold gOf
  split
  · omega
  · split <;> omega

theorem ianswer_at (A : Option Addr) (n c : Nat) (os : List Ob) (co x : Int) (j u : Nat) (w : World) (hl : OL w w.heap.size A n os) (hc : n ≤ c) (hg : goodL os) (hco : 1 ≤ co ∧ co ≤ 3) (hu : upN os (gOf co) = u) (hj : j < u) (hx : (os.getD j ob0).1 = x) :
    Calls Try.prog 44 #[.slice A n c, .int .i64 co, .int .i64 x] w fun e w' => ∃ B d r nx, 1 ≤ r ∧ j + r ≤ u ∧ e = .returned (.tuple #[.agg #[.int .i64 43, .int .i64 0, .slice none 0 0, .slice none 0 0, .int .i64 0, .int .i64 0, .int .u16 0, .int .u16 0, .int .u16 0, .int .i64 co, .int .i64 (levelOf os), .bool (decide (j + r < u)), .int .i64 nx, .slice B r d], .int .i64 0]) ∧ (j + r < u → (os.getD (j + r) ob0).1 = nx) ∧ w'.ownsRow w.heap.size 98 2 (.slice B r d) r (obs ((os.drop j).take r)) ∧ Below w.heap.size w w' := by
  have hlen := hl.len
  subst hlen
  have l3 := hg.l3
  have l43 := hg.l43
  have hul := upN_le os (gOf co)
  rw [hu] at hul
  obtain ⟨b, off, hA, _⟩ := hl.2 (by omega)
  subst hA
  have hfl : ((os.take u).drop j).length = u - j := by rw [List.length_drop, List.length_take]; omega
  have hmem : ∀ o ∈ (os.take u).drop j, o ∈ os := fun o ho => List.mem_of_mem_take (List.mem_of_mem_drop ho)
  have hgd : ∀ k, j + k < u → ((os.take u).drop j).getD k ob0 = os.getD (j + k) ob0 := by
    intro k hk
    simp [List.getD_eq_getElem?_getD, List.getElem?_drop, List.getElem?_take, hk]
  have htk : ∀ k, k < u → (os.take u).getD k ob0 = os.getD k ob0 := by
    intro k hk
    simp [List.getD_eq_getElem?_getD, List.getElem?_take, hk]
  have hxb := hg.byte _ (goodL.getD_mem j (by omega))
  rw [hx] at hxb
  have h := ianswer_many (some ⟨b, off, none⟩) os.length c os co x (some ⟨b, off + j * 2, none⟩) (u - j) (c - j) ((os.take u).drop j) w hl (by omega) hc hco hxb
    (fun o ho => by have := hg.short o (hmem o ho); omega) (by omega) (by omega)
    (fun W hW => by
      rw [hu]
      exact ifrom_yes b off u c (os.take u) x j W (hW.take u hul) (by omega) (by omega) hj
        (fun k hk => by rw [htk k (by omega), ← hx]; have := hg.lt k j hk (by omega); omega) (by rw [htk j hj]; exact hx))
    (fun W hW => (hW.take u hul).drop j (by omega))
  refine h.mono ?_
  rintro e w' ⟨B, d, he, ho, hb⟩
  have hr1 := roomOf_pos _ (by rw [hfl]; omega) (fun o ho => hg.byte o (hmem o ho)) (fun o ho => hg.short o (hmem o ho))
  have hr2 : roomOf ((os.take u).drop j) ≤ ((os.take u).drop j).length := roomG_le 246 _
  rw [hfl] at hr2
  have hmo : moreOf ((os.take u).drop j) = decide (j + roomOf ((os.take u).drop j) < u) := by
    unfold moreOf
    rw [hfl]
    exact decide_eq_decide.2 (by omega)
  have htd : ((os.take u).drop j).take (roomOf ((os.take u).drop j)) = (os.drop j).take (roomOf ((os.take u).drop j)) := by
    generalize roomOf ((os.take u).drop j) = r at hr2
    rw [List.drop_take, List.take_take, Nat.min_eq_left hr2]
  refine ⟨B, d, roomOf ((os.take u).drop j), nextOf ((os.take u).drop j), hr1, by omega, ?_, ?_, ?_, hb⟩
  · rw [he, hmo]
  · intro hlt
    unfold nextOf
    rw [hfl, if_pos (by omega), hgd _ hlt]
  · rw [← htd]; exact ho

theorem own2_far {w : World} {base : Nat} {e : TypeId} {v : Value} {n : Nat} {xs : List Value} (h : w.ownsRow base e 2 v n xs) (b : Nat) (hb : w.heap.size ≤ b) : some b ≠ v.ownBlock := by
  rcases h.2 with ⟨rfl, _⟩ | ⟨g, cap, cur, rfl, _, hh, _⟩
  · simp [Value.ownBlock]
  · intro he
    have he2 : b = g := by simpa [Value.ownBlock] using he
    rw [Array.getElem?_eq_none (by omega)] at hh
    cases hh

end Go.Proofs.Ytoljpdamalcjeaa
