/- Joined: PEnc PduDef PduIs. -/
import Derived.Test.YthmendcdfhlkkaaPSpec
import Derived.Test.YthmendcdfhlkkaaGen
import Derived.Test.YthmendcdfhlkkaaLAsk4
namespace Go.Proofs.Ythmendcdfhlkkaa
open Go.ChangeShapes Go.WideShapes Go.ChangeAt Go.RowKit
set_option linter.unusedVariables false
set_option linter.unusedSimpArgs false

theorem take_row {w : World} {A : Option Addr} {L : Nat} {zs : List Int} (h : Row .u8 w w.heap.size A L zs) (k : Nat) (hk : k ≤ L) : Row .u8 w w.heap.size A k (zs.take k) := by
  have hl := h.1
  have h2 : Row .u8 w w.heap.size A (k + (L - k)) (zs.take k ++ zs.drop k) := by
    rw [List.take_append_drop, show k + (L - k) = L by omega]
    exact h
  exact h2.front (by rw [List.length_take]; omega)
theorem Bytes8.take {zs : List Int} (h : Bytes8 zs) (k : Nat) : Bytes8 (zs.take k) := fun x hx => h x (List.mem_of_mem_take hx)
theorem ex0 : parseOf [] 0 = (⟨0, 0, 0, 0, 0, 0, [], [], 0, 0, 0, 0⟩, 1) := by kernel_rfl

theorem be_bytes (v : Int) (h0 : 0 ≤ v) (h1 : v ≤ 65535) : Bytes8 (be v) := by
  intro x hx
  simp [be] at hx
  omega
theorem flat_bytes (ws : List Int) (h : Words ws) : Bytes8 (flat ws) := by
  intro x hx
  obtain ⟨w, hw, hm⟩ := List.mem_flatMap.1 hx
  have := h w hw
  exact be_bytes w this.1 this.2 x hm
theorem Bytes8.app {a b : List Int} (ha : Bytes8 a) (hb : Bytes8 b) : Bytes8 (a ++ b) := fun x hx => (List.mem_append.1 hx).elim (ha x) (hb x)
theorem Bytes8.one {a : Int} (h0 : 0 ≤ a) (h1 : a ≤ 255) : Bytes8 [a] := fun x hx => by simp at hx; omega
theorem flat_get (ws : List Int) (i : Nat) (h : i < ws.length) : (flat ws).getD (2 * i) 0 = ws.getD i 0 / 256 ∧ (flat ws).getD (2 * i + 1) 0 = ws.getD i 0 % 256 := by
  induction ws generalizing i with
  | nil => simp at h
  | cons x xs ih =>
    have e : flat (x :: xs) = be x ++ flat xs := rfl
    rw [e]
    rcases i with _ | i
    · simp [be]
    · have := ih i (by simpa using h)
      simpa [be, List.getD, Nat.mul_succ] using this
theorem wordsAt_flat (ws : List Int) (h : Words ws) : wordsAt (flat ws) 0 ws.length = ws := by
  apply List.ext_getElem
  · rw [wordsAt_length]
  · intro i h1 h2
    have hg := flat_get ws i h2
    have hw := h _ (List.getElem_mem h2)
    simp only [wordsAt, List.getElem_map, List.getElem_range, Nat.zero_add, wordAt]
    rw [hg.1, hg.2]
    simp [List.getD, h2]
    omega

theorem parse_wrong (zs : List Int) (n : Nat) (f : Int) (h0 : zs.getD 0 0 = f) (hk : kKnown f = true) (h1 : 1 ≤ n) (h2 : n ≤ 253) (h43 : f = 43 → n = 1 ∨ zs.getD 1 0 = 14) (hc : cand zs n = none) : parseOf zs n = (⟨f, 0, 0, 0, 0, 0, [], [], 0, 0, 0, 0⟩, 3) := by
  unfold parseOf
  rw [if_neg (by omega), h0, if_neg (by rw [hk]; simp)]
  by_cases ha : f = 43 ∧ n = 1
  · rw [if_pos ha]
  · rw [if_neg ha, if_neg (by
      rintro ⟨e, h⟩
      rcases h43 e with h3 | h3
      · exact ha ⟨e, h3⟩
      · exact h h3), hc]
theorem parse_right (zs : List Int) (n : Nat) (f : Int) (r : Req) (h0 : zs.getD 0 0 = f) (hk : kKnown f = true) (h1 : 1 ≤ n) (h2 : n ≤ 253) (h43 : f = 43 → n ≠ 1 ∧ zs.getD 1 0 = 14) (hc : cand zs n = some r) (hr : r.right) : parseOf zs n = (r, 0) := by
  unfold parseOf
  rw [if_neg (by omega), h0, if_neg (by rw [hk]; simp), if_neg (fun h => (h43 h.1).1 h.2), if_neg (fun h => h.2 (h43 h.1).2), hc]
  simp only [hr, if_true]

section
variable (at_ n v an orr : Int) (bs : List Bool) (ws : List Int) (ra rn co ob : Int)
theorem enc_read (f : Int) (hf : f = 1 ∨ f = 2 ∨ f = 3 ∨ f = 4) : enc f at_ n v an orr bs ws ra rn co ob = [f, at_ / 256, at_ % 256, n / 256, n % 256] := by
  rcases hf with rfl | rfl | rfl | rfl <;> rfl
theorem enc_5 : enc 5 at_ n v an orr bs ws ra rn co ob = [5, at_ / 256, at_ % 256, (v * 65280) / 256, (v * 65280) % 256] := rfl
theorem enc_6 : enc 6 at_ n v an orr bs ws ra rn co ob = [6, at_ / 256, at_ % 256, v / 256, v % 256] := rfl
theorem enc_15 : enc 15 at_ n v an orr bs ws ra rn co ob = [15, at_ / 256, at_ % 256, n / 256, n % 256, ((nb bs.length : Nat) : Int)] ++ pk bs bs.length := rfl
theorem enc_16 : enc 16 at_ n v an orr bs ws ra rn co ob = [16, at_ / 256, at_ % 256, n / 256, n % 256, 2 * (ws.length : Int)] ++ flat ws := rfl
theorem enc_22 : enc 22 at_ n v an orr bs ws ra rn co ob = [22, at_ / 256, at_ % 256, an / 256, an % 256, orr / 256, orr % 256] := rfl
theorem enc_23 : enc 23 at_ n v an orr bs ws ra rn co ob = [23, ra / 256, ra % 256, rn / 256, rn % 256, at_ / 256, at_ % 256, n / 256, n % 256, 2 * (ws.length : Int)] ++ flat ws := rfl
theorem enc_43 : enc 43 at_ n v an orr bs ws ra rn co ob = [43, 14, co, ob] := rfl

theorem enc_first (fn : Int) : (enc fn at_ n v an orr bs ws ra rn co ob).getD 0 0 = fn := rfl
theorem enc_length (fn : Int) (hr : rightP fn at_ n v an orr bs.length ws.length ra rn co ob) : 4 ≤ (enc fn at_ n v an orr bs ws ra rn co ob).length ∧ (enc fn at_ n v an orr bs ws ra rn co ob).length ≤ 252 ∧ ((fn = 15 ∨ fn = 16) → 6 ≤ (enc fn at_ n v an orr bs ws ra rn co ob).length) ∧ (fn = 23 → 10 ≤ (enc fn at_ n v an orr bs ws ra rn co ob).length) := by
  have hk := hr.1
  have hfit := hr.2.2.2.2
  unfold fitsP at hfit
  rcases kinds fn with rfl | rfl | rfl | rfl | rfl | rfl | rfl | rfl | rfl | rfl | rfl | h
  case inr.inr.inr.inr.inr.inr.inr.inr.inr.inr.inr => rw [h.known] at hk; cases hk
  case inr.inr.inr.inr.inr.inr.inl =>
    have hm : kMostW 15 = 1968 := rfl
    rw [enc_15, List.length_append, pk_length]
    simp only [List.length_cons, List.length_nil]
    unfold nb
    omega
  case inr.inr.inr.inr.inr.inr.inr.inl =>
    have hm : kMostW 16 = 123 := rfl
    rw [enc_16, List.length_append, flat_length]
    simp only [List.length_cons, List.length_nil]
    omega
  case inr.inr.inr.inr.inr.inr.inr.inr.inr.inl =>
    have hm : kMostW 23 = 121 := rfl
    rw [enc_23, List.length_append, flat_length]
    simp only [List.length_cons, List.length_nil]
    omega
  all_goals simp [enc, be]
theorem enc_bytes (fn : Int) (hr : rightP fn at_ n v an orr bs.length ws.length ra rn co ob) (hw : Wide at_ n v an orr ra rn co ob) (hx : Words ws) : Bytes8 (enc fn at_ n v an orr bs ws ra rn co ob) := by
  have hk := hr.1
  obtain ⟨_, hpl, ⟨a0, a1⟩, ⟨r0, r1⟩, hfit⟩ := hr
  unfold plainP at hpl
  unfold fitsP at hfit
  have v0 := hw.v0
  have v1 := hw.v1
  have x0 := hw.x0
  have x1 := hw.x1
  have o0 := hw.o0
  have o1 := hw.o1
  rcases kinds fn with rfl | rfl | rfl | rfl | rfl | rfl | rfl | rfl | rfl | rfl | rfl | h
  case inr.inr.inr.inr.inr.inr.inr.inr.inr.inr.inr => rw [h.known] at hk; cases hk
  case inr.inr.inr.inr.inr.inr.inl =>
    have hm : kMostW 15 = 1968 := rfl
    have hb : nb bs.length ≤ 255 := by unfold nb; omega
    rw [enc_15]
    refine Bytes8.app ?_ (pk_bytes _ _)
    intro x hx; simp at hx; omega
  case inr.inr.inr.inr.inr.inr.inr.inl =>
    have hm : kMostW 16 = 123 := rfl
    rw [enc_16]
    refine Bytes8.app ?_ (flat_bytes ws hx)
    intro x hx; simp at hx; omega
  case inr.inr.inr.inr.inr.inr.inr.inr.inr.inl =>
    have hm : kMostW 23 = 121 := rfl
    have hm2 : kMostR 23 = 125 := rfl
    rw [enc_23]
    refine Bytes8.app ?_ (flat_bytes ws hx)
    intro x hx; simp at hx; omega
  case inl => have hm : kMostR 1 = 2000 := rfl; rw [enc_read _ _ _ _ _ _ _ _ _ _ _ _ (by omega)]; intro x hx; simp at hx; omega
  case inr.inl => have hm : kMostR 2 = 2000 := rfl; rw [enc_read _ _ _ _ _ _ _ _ _ _ _ _ (by omega)]; intro x hx; simp at hx; omega
  case inr.inr.inl => have hm : kMostR 3 = 125 := rfl; rw [enc_read _ _ _ _ _ _ _ _ _ _ _ _ (by omega)]; intro x hx; simp at hx; omega
  case inr.inr.inr.inl => have hm : kMostR 4 = 125 := rfl; rw [enc_read _ _ _ _ _ _ _ _ _ _ _ _ (by omega)]; intro x hx; simp at hx; omega
  all_goals
    intro x hx
    simp [enc, be] at hx
    omega
theorem cand_off (fn : Int) (hr : rightP fn at_ n v an orr bs.length ws.length ra rn co ob) (zs : List Int) (m : Nat) (h0 : zs.getD 0 0 = fn) (h5 : fn = 15 ∨ fn = 16 → 5 < m → zs.getD 5 0 = (enc fn at_ n v an orr bs ws ra rn co ob).getD 5 0) (h9 : fn = 23 → 9 < m → zs.getD 9 0 = (enc fn at_ n v an orr bs ws ra rn co ob).getD 9 0) (hm : m ≠ (enc fn at_ n v an orr bs ws ra rn co ob).length) : cand zs m = none := by
  have hk := hr.1
  rcases kinds fn with rfl | rfl | rfl | rfl | rfl | rfl | rfl | rfl | rfl | rfl | rfl | h
  case inr.inr.inr.inr.inr.inr.inr.inr.inr.inr.inr => rw [h.known] at hk; cases hk
  case inr.inr.inr.inr.inr.inr.inl =>
    rw [cand_15 h0, if_neg]
    rintro ⟨h1, h2, h3⟩
    have e := h5 (.inl rfl) h1
    rw [enc_15] at e hm
    rw [List.length_append, pk_length] at hm
    simp at e hm
    simp at h2
    omega
  case inr.inr.inr.inr.inr.inr.inr.inl =>
    rw [cand_16 h0, if_neg]
    rintro ⟨h1, h2, h3⟩
    have e := h5 (.inr rfl) h1
    rw [enc_16] at e hm
    rw [List.length_append, flat_length] at hm
    simp at e hm
    simp at h2
    omega
  case inr.inr.inr.inr.inr.inr.inr.inr.inr.inl =>
    rw [cand_23 h0, if_neg]
    rintro ⟨h1, h2, h3⟩
    have e := h9 rfl h1
    rw [enc_23] at e hm
    rw [List.length_append, flat_length] at hm
    simp at e hm
    simp at h2
    omega
  case inl => rw [enc_read _ _ _ _ _ _ _ _ _ _ _ _ (by omega)] at hm; rw [cand_read h0 (by omega), if_neg (by simpa using hm)]
  case inr.inl => rw [enc_read _ _ _ _ _ _ _ _ _ _ _ _ (by omega)] at hm; rw [cand_read h0 (by omega), if_neg (by simpa using hm)]
  case inr.inr.inl => rw [enc_read _ _ _ _ _ _ _ _ _ _ _ _ (by omega)] at hm; rw [cand_read h0 (by omega), if_neg (by simpa using hm)]
  case inr.inr.inr.inl => rw [enc_read _ _ _ _ _ _ _ _ _ _ _ _ (by omega)] at hm; rw [cand_read h0 (by omega), if_neg (by simpa using hm)]
  case inr.inr.inr.inr.inl => rw [enc_5] at hm; have hm' : m ≠ 5 := by simpa using hm
                              rw [cand_5 h0, if_neg (fun h => hm' h.1), if_neg (fun h => hm' h.1)]
  case inr.inr.inr.inr.inr.inl => rw [enc_6] at hm; rw [cand_6 h0, if_neg (by simpa using hm)]
  case inr.inr.inr.inr.inr.inr.inr.inr.inl => rw [enc_22] at hm; rw [cand_22 h0, if_neg (by simpa using hm)]
  case inr.inr.inr.inr.inr.inr.inr.inr.inr.inr.inl => rw [enc_43] at hm; rw [cand_43 h0, if_neg (by simpa using hm)]
theorem parse_cut (fn : Int) (hr : rightP fn at_ n v an orr bs.length ws.length ra rn co ob) (m : Nat) (h1 : 1 ≤ m) (h2 : m < (enc fn at_ n v an orr bs ws ra rn co ob).length) :
    parseOf ((enc fn at_ n v an orr bs ws ra rn co ob).take m) m = (⟨fn, 0, 0, 0, 0, 0, [], [], 0, 0, 0, 0⟩, 3) := by
  have hl := enc_length at_ n v an orr bs ws ra rn co ob fn hr
  have g : ∀ i, i < m → ((enc fn at_ n v an orr bs ws ra rn co ob).take m).getD i 0 = (enc fn at_ n v an orr bs ws ra rn co ob).getD i 0 := by
    intro i hi
    simp [List.getD, List.getElem?_take, hi]
  refine parse_wrong _ m fn ((g 0 (by omega)).trans (enc_first at_ n v an orr bs ws ra rn co ob fn)) hr.1 h1 (by omega) ?_ (cand_off at_ n v an orr bs ws ra rn co ob fn hr _ m ((g 0 (by omega)).trans (enc_first at_ n v an orr bs ws ra rn co ob fn)) (fun _ h => g 5 h) (fun _ h => g 9 h) (by omega))
  rintro rfl
  by_cases h : m = 1
  · exact .inl h
  · exact .inr ((g 1 (by omega)).trans rfl)
theorem parse_more (fn : Int) (hr : rightP fn at_ n v an orr bs.length ws.length ra rn co ob) (x : Int) (m : Nat) (hm : m = (enc fn at_ n v an orr bs ws ra rn co ob).length + 1) :
    parseOf (enc fn at_ n v an orr bs ws ra rn co ob ++ [x]) m = (⟨fn, 0, 0, 0, 0, 0, [], [], 0, 0, 0, 0⟩, 3) := by
  have hl := enc_length at_ n v an orr bs ws ra rn co ob fn hr
  have g : ∀ i, i < (enc fn at_ n v an orr bs ws ra rn co ob).length → (enc fn at_ n v an orr bs ws ra rn co ob ++ [x]).getD i 0 = (enc fn at_ n v an orr bs ws ra rn co ob).getD i 0 := by
    intro i hi
    simp [List.getD, List.getElem?_append, hi]
  refine parse_wrong _ m fn ((g 0 (by omega)).trans (enc_first at_ n v an orr bs ws ra rn co ob fn)) hr.1 (by omega) (by omega) ?_ (cand_off at_ n v an orr bs ws ra rn co ob fn hr _ m ((g 0 (by omega)).trans (enc_first at_ n v an orr bs ws ra rn co ob fn)) (fun h _ => g 5 (by have := hl.2.2.1 h; omega)) (fun h _ => g 9 (by have := hl.2.2.2 h; omega)) (by omega))
  rintro rfl
  exact .inr ((g 1 (by omega)).trans rfl)
end

/-- The document's bytes of the request by k and v. -/
def PduIs (k v : Int) (zs : List Int) : Prop :=
  Bytes8 zs ∧ 4 ≤ zs.length ∧ zs.length ≤ 252 ∧ ∀ l, zs.length = l → ∀ w, Calls Try.prog 22 #[.int .i64 k, .int .i64 v] w fun e w1 => ∃ V, e = .returned V ∧ Below w.heap.size w w1 ∧
    ∀ W, Below w1.heap.size w1 W → Calls Try.prog 37 #[V] W fun e w' => ∃ C cap, e = .returned (.tuple #[.slice C l cap, .int .i64 0]) ∧ Row .u8 w' w'.heap.size C l zs ∧ Below W.heap.size W w'

theorem pdu_is (k v : Int) (k0 : -9223372036854775808 ≤ k) (k1 : k ≤ 9223372036854775807) (v0 : -9223372036854775808 ≤ v) (v1 : v ≤ 9223372036854775807) : ∃ zs, PduIs k v zs := by
  obtain ⟨fn, at_, n, x, an, orr, bl, wl, ra, rn, co, ob, bs, ws, ⟨g1, g2, g3, g4, g5⟩, h⟩ := lask_is k v k0 k1 v0 v1
  have g1' : rightP fn at_ n x an orr bs.length ws.length ra rn co ob := by rw [g4, g5]; exact g1
  have hl := enc_length at_ n x an orr bs ws ra rn co ob fn g1'
  refine ⟨enc fn at_ n x an orr bs ws ra rn co ob, enc_bytes at_ n x an orr bs ws ra rn co ob fn g1' g2 g3, hl.1, hl.2.1, fun l hl w => ?_⟩
  subst hl
  refine (h w).mono fun e w1 ⟨BA, WA, bc, wc, h1, h2, h3, h4⟩ => ⟨_, h1, h4, fun W hW => ?_⟩
  exact rbytes_yes fn at_ n x an orr bs ws ra rn co ob BA WA bl wl bc wc W g1 g2.v0 g2.v1 g2.x0 g2.x1 g2.o0 g2.o1 (((own_row h2).bools.below hW).more hW.size) (((own_row h3).ints.below hW).more hW.size) g3

end Go.Proofs.Ythmendcdfhlkkaa
