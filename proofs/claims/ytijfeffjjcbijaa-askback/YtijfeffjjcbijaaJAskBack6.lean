/- Joined: PEnc PBack Made. -/
import Derived.Test.YtijfeffjjcbijaaPSpec
import Derived.Test.YtijfeffjjcbijaaStep
namespace Go.Proofs.Ytijfeffjjcbijaa
open Go.ChangeShapes Go.WideShapes Go.ChangeAt Go.RowKit
set_option linter.unusedVariables false
set_option linter.unusedSimpArgs false

theorem take_row {w : World} {A : Option Addr} {L : Nat} {zs : List Int} (h : Row .u8 w w.heap.size A L zs) (k : Nat) (hk : k ≤ L) : Row .u8 w w.heap.size A k (zs.take k) := by
  have hl := h.1
  have h2 : Row .u8 w w.heap.size A (k + (L - k)) (zs.take k ++ zs.drop k) := by
    rw [List.take_append_drop, show k + (L - k) = L by omega]
    exact h
  exact h2.front (by rw [List.length_take]; omega)
theorem Bytes8.take {zs : List Int} (h : Bytes8 zs) (k : Nat) : Bytes8 (zs.take k) := fun x hx => h x (List.mem_of_mem_take hx)
theorem ex0 : parseOf [] 0 = (⟨0, 0, 0, 0, 0, 0, [], [], 0, 0, 0, 0⟩, 1) := by kernel_rfl

theorem be_bytes (v : Int) (h0 : 0 ≤ v) (h1 : v ≤ 65535) : Bytes8 (be v) := by
  intro x hx
  simp [be] at hx
  omega
theorem flat_bytes (ws : List Int) (h : Words ws) : Bytes8 (flat ws) := by
  intro x hx
  obtain ⟨w, hw, hm⟩ := List.mem_flatMap.1 hx
  have := h w hw
  exact be_bytes w this.1 this.2 x hm
theorem Bytes8.app {a b : List Int} (ha : Bytes8 a) (hb : Bytes8 b) : Bytes8 (a ++ b) := fun x hx => (List.mem_append.1 hx).elim (ha x) (hb x)
theorem Bytes8.one {a : Int} (h0 : 0 ≤ a) (h1 : a ≤ 255) : Bytes8 [a] := fun x hx => by simp at hx; omega
theorem flat_get (ws : List Int) (i : Nat) (h : i < ws.length) : (flat ws).getD (2 * i) 0 = ws.getD i 0 / 256 ∧ (flat ws).getD (2 * i + 1) 0 = ws.getD i 0 % 256 := by
  induction ws generalizing i with
  | nil => simp at h
  | cons x xs ih =>
    have e : flat (x :: xs) = be x ++ flat xs := rfl
    rw [e]
    rcases i with _ | i
    · simp [be]
    · have := ih i (by simpa using h)
      simpa [be, List.getD, Nat.mul_succ] using this
theorem wordsAt_flat (ws : List Int) (h : Words ws) : wordsAt (flat ws) 0 ws.length = ws := by
  apply List.ext_getElem
  · rw [wordsAt_length]
  · intro i h1 h2
    have hg := flat_get ws i h2
    have hw := h _ (List.getElem_mem h2)
    simp only [wordsAt, List.getElem_map, List.getElem_range, Nat.zero_add, wordAt]
    rw [hg.1, hg.2]
    simp [List.getD, h2]
    omega

theorem parse_wrong (zs : List Int) (n : Nat) (f : Int) (h0 : zs.getD 0 0 = f) (hk : kKnown f = true) (h1 : 1 ≤ n) (h2 : n ≤ 253) (h43 : f = 43 → n = 1 ∨ zs.getD 1 0 = 14) (hc : cand zs n = none) : parseOf zs n = (⟨f, 0, 0, 0, 0, 0, [], [], 0, 0, 0, 0⟩, 3) := by
  unfold parseOf
  rw [if_neg (by omega), h0, if_neg (by rw [hk]; simp)]
  by_cases ha : f = 43 ∧ n = 1
  · rw [if_pos ha]
  · rw [if_neg ha, if_neg (by
      rintro ⟨e, h⟩
      rcases h43 e with h3 | h3
      · exact ha ⟨e, h3⟩
      · exact h h3), hc]
theorem parse_right (zs : List Int) (n : Nat) (f : Int) (r : Req) (h0 : zs.getD 0 0 = f) (hk : kKnown f = true) (h1 : 1 ≤ n) (h2 : n ≤ 253) (h43 : f = 43 → n ≠ 1 ∧ zs.getD 1 0 = 14) (hc : cand zs n = some r) (hr : r.right) : parseOf zs n = (r, 0) := by
  unfold parseOf
  rw [if_neg (by omega), h0, if_neg (by rw [hk]; simp), if_neg (fun h => (h43 h.1).1 h.2), if_neg (fun h => h.2 (h43 h.1).2), hc]
  simp only [hr, if_true]

section
variable (at_ n v an orr : Int) (bs : List Bool) (ws : List Int) (ra rn co ob : Int)
theorem enc_read (f : Int) (hf : f = 1 ∨ f = 2 ∨ f = 3 ∨ f = 4) : enc f at_ n v an orr bs ws ra rn co ob = [f, at_ / 256, at_ % 256, n / 256, n % 256] := by
  rcases hf with rfl | rfl | rfl | rfl <;> rfl
theorem enc_5 : enc 5 at_ n v an orr bs ws ra rn co ob = [5, at_ / 256, at_ % 256, (v * 65280) / 256, (v * 65280) % 256] := rfl
theorem enc_6 : enc 6 at_ n v an orr bs ws ra rn co ob = [6, at_ / 256, at_ % 256, v / 256, v % 256] := rfl
theorem enc_15 : enc 15 at_ n v an orr bs ws ra rn co ob = [15, at_ / 256, at_ % 256, n / 256, n % 256, ((nb bs.length : Nat) : Int)] ++ pk bs bs.length := rfl
theorem enc_16 : enc 16 at_ n v an orr bs ws ra rn co ob = [16, at_ / 256, at_ % 256, n / 256, n % 256, 2 * (ws.length : Int)] ++ flat ws := rfl
theorem enc_22 : enc 22 at_ n v an orr bs ws ra rn co ob = [22, at_ / 256, at_ % 256, an / 256, an % 256, orr / 256, orr % 256] := rfl
theorem enc_23 : enc 23 at_ n v an orr bs ws ra rn co ob = [23, ra / 256, ra % 256, rn / 256, rn % 256, at_ / 256, at_ % 256, n / 256, n % 256, 2 * (ws.length : Int)] ++ flat ws := rfl
theorem enc_43 : enc 43 at_ n v an orr bs ws ra rn co ob = [43, 14, co, ob] := rfl

theorem enc_first (fn : Int) : (enc fn at_ n v an orr bs ws ra rn co ob).getD 0 0 = fn := rfl
theorem enc_length (fn : Int) (hr : rightP fn at_ n v an orr bs.length ws.length ra rn co ob) : 4 ≤ (enc fn at_ n v an orr bs ws ra rn co ob).length ∧ (enc fn at_ n v an orr bs ws ra rn co ob).length ≤ 252 ∧ ((fn = 15 ∨ fn = 16) → 6 ≤ (enc fn at_ n v an orr bs ws ra rn co ob).length) ∧ (fn = 23 → 10 ≤ (enc fn at_ n v an orr bs ws ra rn co ob).length) := by
  have hk := hr.1
  have hfit := hr.2.2.2.2
  unfold fitsP at hfit
  rcases kinds fn with rfl | rfl | rfl | rfl | rfl | rfl | rfl | rfl | rfl | rfl | rfl | h
  case inr.inr.inr.inr.inr.inr.inr.inr.inr.inr.inr => rw [h.known] at hk; cases hk
  case inr.inr.inr.inr.inr.inr.inl =>
    have hm : kMostW 15 = 1968 := rfl
    rw [enc_15, List.length_append, pk_length]
    simp only [List.length_cons, List.length_nil]
    unfold nb
    omega
  case inr.inr.inr.inr.inr.inr.inr.inl =>
    have hm : kMostW 16 = 123 := rfl
    rw [enc_16, List.length_append, flat_length]
    simp only [List.length_cons, List.length_nil]
    omega
  case inr.inr.inr.inr.inr.inr.inr.inr.inr.inl =>
    have hm : kMostW 23 = 121 := rfl
    rw [enc_23, List.length_append, flat_length]
    simp only [List.length_cons, List.length_nil]
    omega
  all_goals simp [enc, be]
theorem enc_bytes (fn : Int) (hr : rightP fn at_ n v an orr bs.length ws.length ra rn co ob) (hw : Wide at_ n v an orr ra rn co ob) (hx : Words ws) : Bytes8 (enc fn at_ n v an orr bs ws ra rn co ob) := by
  have hk := hr.1
  obtain ⟨_, hpl, ⟨a0, a1⟩, ⟨r0, r1⟩, hfit⟩ := hr
  unfold plainP at hpl
  unfold fitsP at hfit
  have v0 := hw.v0
  have v1 := hw.v1
  have x0 := hw.x0
  have x1 := hw.x1
  have o0 := hw.o0
  have o1 := hw.o1
  rcases kinds fn with rfl | rfl | rfl | rfl | rfl | rfl | rfl | rfl | rfl | rfl | rfl | h
  case inr.inr.inr.inr.inr.inr.inr.inr.inr.inr.inr => rw [h.known] at hk; cases hk
  case inr.inr.inr.inr.inr.inr.inl =>
    have hm : kMostW 15 = 1968 := rfl
    have hb : nb bs.length ≤ 255 := by unfold nb; omega
    rw [enc_15]
    refine Bytes8.app ?_ (pk_bytes _ _)
    intro x hx; simp at hx; omega
  case inr.inr.inr.inr.inr.inr.inr.inl =>
    have hm : kMostW 16 = 123 := rfl
    rw [enc_16]
    refine Bytes8.app ?_ (flat_bytes ws hx)
    intro x hx; simp at hx; omega
  case inr.inr.inr.inr.inr.inr.inr.inr.inr.inl =>
    have hm : kMostW 23 = 121 := rfl
    have hm2 : kMostR 23 = 125 := rfl
    rw [enc_23]
    refine Bytes8.app ?_ (flat_bytes ws hx)
    intro x hx; simp at hx; omega
  case inl => have hm : kMostR 1 = 2000 := rfl; rw [enc_read _ _ _ _ _ _ _ _ _ _ _ _ (by omega)]; intro x hx; simp at hx; omega
  case inr.inl => have hm : kMostR 2 = 2000 := rfl; rw [enc_read _ _ _ _ _ _ _ _ _ _ _ _ (by omega)]; intro x hx; simp at hx; omega
  case inr.inr.inl => have hm : kMostR 3 = 125 := rfl; rw [enc_read _ _ _ _ _ _ _ _ _ _ _ _ (by omega)]; intro x hx; simp at hx; omega
  case inr.inr.inr.inl => have hm : kMostR 4 = 125 := rfl; rw [enc_read _ _ _ _ _ _ _ _ _ _ _ _ (by omega)]; intro x hx; simp at hx; omega
  all_goals
    intro x hx
    simp [enc, be] at hx
    omega
theorem cand_off (fn : Int) (hr : rightP fn at_ n v an orr bs.length ws.length ra rn co ob) (zs : List Int) (m : Nat) (h0 : zs.getD 0 0 = fn) (h5 : fn = 15 ∨ fn = 16 → 5 < m → zs.getD 5 0 = (enc fn at_ n v an orr bs ws ra rn co ob).getD 5 0) (h9 : fn = 23 → 9 < m → zs.getD 9 0 = (enc fn at_ n v an orr bs ws ra rn co ob).getD 9 0) (hm : m ≠ (enc fn at_ n v an orr bs ws ra rn co ob).length) : cand zs m = none := by
  have hk := hr.1
  rcases kinds fn with rfl | rfl | rfl | rfl | rfl | rfl | rfl | rfl | rfl | rfl | rfl | h
  case inr.inr.inr.inr.inr.inr.inr.inr.inr.inr.inr => rw [h.known] at hk; cases hk
  case inr.inr.inr.inr.inr.inr.inl =>
    rw [cand_15 h0, if_neg]
    rintro ⟨h1, h2, h3⟩
    have e := h5 (.inl rfl) h1
    rw [enc_15] at e hm
    rw [List.length_append, pk_length] at hm
    simp at e hm
    simp at h2
    omega
  case inr.inr.inr.inr.inr.inr.inr.inl =>
    rw [cand_16 h0, if_neg]
    rintro ⟨h1, h2, h3⟩
    have e := h5 (.inr rfl) h1
    rw [enc_16] at e hm
    rw [List.length_append, flat_length] at hm
    simp at e hm
    simp at h2
    omega
  case inr.inr.inr.inr.inr.inr.inr.inr.inr.inl =>
    rw [cand_23 h0, if_neg]
    rintro ⟨h1, h2, h3⟩
    have e := h9 rfl h1
    rw [enc_23] at e hm
    rw [List.length_append, flat_length] at hm
    simp at e hm
    simp at h2
    omega
  case inl => rw [enc_read _ _ _ _ _ _ _ _ _ _ _ _ (by omega)] at hm; rw [cand_read h0 (by omega), if_neg (by simpa using hm)]
  case inr.inl => rw [enc_read _ _ _ _ _ _ _ _ _ _ _ _ (by omega)] at hm; rw [cand_read h0 (by omega), if_neg (by simpa using hm)]
  case inr.inr.inl => rw [enc_read _ _ _ _ _ _ _ _ _ _ _ _ (by omega)] at hm; rw [cand_read h0 (by omega), if_neg (by simpa using hm)]
  case inr.inr.inr.inl => rw [enc_read _ _ _ _ _ _ _ _ _ _ _ _ (by omega)] at hm; rw [cand_read h0 (by omega), if_neg (by simpa using hm)]
  case inr.inr.inr.inr.inl => rw [enc_5] at hm; have hm' : m ≠ 5 := by simpa using hm
                              rw [cand_5 h0, if_neg (fun h => hm' h.1), if_neg (fun h => hm' h.1)]
  case inr.inr.inr.inr.inr.inl => rw [enc_6] at hm; rw [cand_6 h0, if_neg (by simpa using hm)]
  case inr.inr.inr.inr.inr.inr.inr.inr.inl => rw [enc_22] at hm; rw [cand_22 h0, if_neg (by simpa using hm)]
  case inr.inr.inr.inr.inr.inr.inr.inr.inr.inr.inl => rw [enc_43] at hm; rw [cand_43 h0, if_neg (by simpa using hm)]
theorem parse_cut (fn : Int) (hr : rightP fn at_ n v an orr bs.length ws.length ra rn co ob) (m : Nat) (h1 : 1 ≤ m) (h2 : m < (enc fn at_ n v an orr bs ws ra rn co ob).length) :
    parseOf ((enc fn at_ n v an orr bs ws ra rn co ob).take m) m = (⟨fn, 0, 0, 0, 0, 0, [], [], 0, 0, 0, 0⟩, 3) := by
  have hl := enc_length at_ n v an orr bs ws ra rn co ob fn hr
  have g : ∀ i, i < m → ((enc fn at_ n v an orr bs ws ra rn co ob).take m).getD i 0 = (enc fn at_ n v an orr bs ws ra rn co ob).getD i 0 := by
    intro i hi
    simp [List.getD, List.getElem?_take, hi]
  refine parse_wrong _ m fn ((g 0 (by omega)).trans (enc_first at_ n v an orr bs ws ra rn co ob fn)) hr.1 h1 (by omega) ?_ (cand_off at_ n v an orr bs ws ra rn co ob fn hr _ m ((g 0 (by omega)).trans (enc_first at_ n v an orr bs ws ra rn co ob fn)) (fun _ h => g 5 h) (fun _ h => g 9 h) (by omega))
  rintro rfl
  by_cases h : m = 1
  · exact .inl h
  · exact .inr ((g 1 (by omega)).trans rfl)
theorem parse_more (fn : Int) (hr : rightP fn at_ n v an orr bs.length ws.length ra rn co ob) (x : Int) (m : Nat) (hm : m = (enc fn at_ n v an orr bs ws ra rn co ob).length + 1) :
    parseOf (enc fn at_ n v an orr bs ws ra rn co ob ++ [x]) m = (⟨fn, 0, 0, 0, 0, 0, [], [], 0, 0, 0, 0⟩, 3) := by
  have hl := enc_length at_ n v an orr bs ws ra rn co ob fn hr
  have g : ∀ i, i < (enc fn at_ n v an orr bs ws ra rn co ob).length → (enc fn at_ n v an orr bs ws ra rn co ob ++ [x]).getD i 0 = (enc fn at_ n v an orr bs ws ra rn co ob).getD i 0 := by
    intro i hi
    simp [List.getD, List.getElem?_append, hi]
  refine parse_wrong _ m fn ((g 0 (by omega)).trans (enc_first at_ n v an orr bs ws ra rn co ob fn)) hr.1 (by omega) (by omega) ?_ (cand_off at_ n v an orr bs ws ra rn co ob fn hr _ m ((g 0 (by omega)).trans (enc_first at_ n v an orr bs ws ra rn co ob fn)) (fun h _ => g 5 (by have := hl.2.2.1 h; omega)) (fun h _ => g 9 (by have := hl.2.2.2 h; omega)) (by omega))
  rintro rfl
  exact .inr ((g 1 (by omega)).trans rfl)
end

theorem got_two (zs : List Int) (L p : Nat) (x : Int) (hL : p + 1 < L) (h1 : zs.getD p 0 = x / 256) (h2 : zs.getD (p + 1) 0 = x % 256) : gotW zs L (p : Int) = x := by
  unfold gotW
  rw [if_pos (by omega)]
  show zs.getD p 0 * 256 + zs.getD (p + 1) 0 = x
  rw [h1, h2]; omega

theorem cand_five (f at_ n : Int) (hf : f = 1 ∨ f = 2 ∨ f = 3 ∨ f = 4) : cand [f, at_ / 256, at_ % 256, n / 256, n % 256] 5 = some ⟨f, at_, n, 0, 0, 0, [], [], 0, 0, 0, 0⟩ := by
  have h0 : [f, at_ / 256, at_ % 256, n / 256, n % 256].getD 0 0 = f := rfl
  have g1 : gotW [f, at_ / 256, at_ % 256, n / 256, n % 256] 5 1 = at_ := got_two _ 5 1 at_ (by omega) rfl rfl
  have g3 : gotW [f, at_ / 256, at_ % 256, n / 256, n % 256] 5 3 = n := got_two _ 5 3 n (by omega) rfl rfl
  rw [cand_read h0 hf, if_pos rfl, g1, g3]

set_option maxHeartbeats 4000000 in
theorem parse_enc (fn at_ n v an orr : Int) (bs : List Bool) (ws : List Int) (ra rn co ob : Int) (hr : rightP fn at_ n v an orr bs.length ws.length ra rn co ob) (hw : Wide at_ n v an orr ra rn co ob) (hx : Words ws) (L : Nat) (hL : (enc fn at_ n v an orr bs ws ra rn co ob).length = L) :
    parseOf (enc fn at_ n v an orr bs ws ra rn co ob) L = (⟨fn, at_, n, v, an, orr, bs, ws, ra, rn, co, ob⟩, 0) := by
  have hl := enc_length at_ n v an orr bs ws ra rn co ob fn hr
  have hk := hr.1
  have hpl := hr.2.1
  have hfit := hr.2.2.2.2
  have v0 := hw.v0
  refine parse_right _ L fn _ (enc_first at_ n v an orr bs ws ra rn co ob fn) hk (by omega) (by omega) (by rintro rfl; exact ⟨by omega, rfl⟩) ?_ hr
  clear hr hw
  unfold plainP at hpl
  unfold fitsP at hfit
  obtain ⟨c1, c2, c3, c4, c5, c6, c7, c8⟩ := hpl
  rcases kinds fn with rfl | rfl | rfl | rfl | rfl | rfl | rfl | rfl | rfl | rfl | rfl | h
  case inr.inr.inr.inr.inr.inr.inr.inr.inr.inr.inr => rw [h.known] at hk; cases hk
  case inr.inr.inr.inr.inr.inr.inl =>
    have hm : kMostW 15 = 1968 := rfl
    obtain rfl : v = 0 := by omega
    obtain rfl : an = 0 := by omega
    obtain rfl : orr = 0 := by omega
    obtain rfl : ws = [] := List.eq_nil_of_length_eq_zero (by omega)
    obtain rfl : ra = 0 := by omega
    obtain rfl : rn = 0 := by omega
    obtain rfl : co = 0 := by omega
    obtain rfl : ob = 0 := by omega
    obtain rfl : n = (bs.length : Int) := by omega
    have hb : nb bs.length ≤ 255 := by unfold nb; omega
    rw [enc_15, List.length_append, pk_length] at hL
    simp only [List.length_cons, List.length_nil] at hL
    have g1 : gotW (enc 15 at_ bs.length 0 0 0 bs [] 0 0 0 0) L 1 = at_ := got_two _ L 1 at_ (by omega) rfl rfl
    have g3 : gotW (enc 15 at_ bs.length 0 0 0 bs [] 0 0 0 0) L 3 = bs.length := got_two _ L 3 _ (by omega) rfl rfl
    have e5 : (enc 15 at_ bs.length 0 0 0 bs [] 0 0 0 0).getD 5 0 = ((nb bs.length : Nat) : Int) := rfl
    have hu : unb ((enc 15 at_ bs.length 0 0 0 bs [] 0 0 0 0).drop 6) bs.length = bs := unb_pk bs
    have hb1 : 1 ≤ nb bs.length := by unfold nb; omega
    rw [cand_15 rfl, g1, g3, e5, if_pos ⟨by omega, by omega, nbI_nat _⟩, Int.toNat_natCast, hu]
  case inr.inr.inr.inr.inr.inr.inr.inl =>
    have hm : kMostW 16 = 123 := rfl
    obtain rfl : v = 0 := by omega
    obtain rfl : an = 0 := by omega
    obtain rfl : orr = 0 := by omega
    obtain rfl : bs = [] := List.eq_nil_of_length_eq_zero (by omega)
    obtain rfl : ra = 0 := by omega
    obtain rfl : rn = 0 := by omega
    obtain rfl : co = 0 := by omega
    obtain rfl : ob = 0 := by omega
    obtain rfl : n = (ws.length : Int) := by omega
    rw [enc_16, List.length_append, flat_length] at hL
    simp only [List.length_cons, List.length_nil] at hL
    have g1 : gotW (enc 16 at_ ws.length 0 0 0 [] ws 0 0 0 0) L 1 = at_ := got_two _ L 1 at_ (by omega) rfl rfl
    have g3 : gotW (enc 16 at_ ws.length 0 0 0 [] ws 0 0 0 0) L 3 = ws.length := got_two _ L 3 _ (by omega) rfl rfl
    have e5 : (enc 16 at_ ws.length 0 0 0 [] ws 0 0 0 0).getD 5 0 = 2 * (ws.length : Int) := rfl
    have hu : wordsAt (enc 16 at_ ws.length 0 0 0 [] ws 0 0 0 0) 6 ws.length = ws := by
      rw [← wordsAt_drop]
      exact wordsAt_flat ws hx
    rw [cand_16 rfl, g1, g3, e5, if_pos ⟨by omega, by omega, by omega⟩, Int.toNat_natCast, hu]
  case inr.inr.inr.inr.inr.inr.inr.inr.inr.inl =>
    have hm : kMostW 23 = 121 := rfl
    obtain rfl : v = 0 := by omega
    obtain rfl : an = 0 := by omega
    obtain rfl : orr = 0 := by omega
    obtain rfl : bs = [] := List.eq_nil_of_length_eq_zero (by omega)
    obtain rfl : co = 0 := by omega
    obtain rfl : ob = 0 := by omega
    obtain rfl : n = (ws.length : Int) := by omega
    rw [enc_23, List.length_append, flat_length] at hL
    simp only [List.length_cons, List.length_nil] at hL
    have g1 : gotW (enc 23 at_ ws.length 0 0 0 [] ws ra rn 0 0) L 1 = ra := got_two _ L 1 ra (by omega) rfl rfl
    have g3 : gotW (enc 23 at_ ws.length 0 0 0 [] ws ra rn 0 0) L 3 = rn := got_two _ L 3 rn (by omega) rfl rfl
    have g5 : gotW (enc 23 at_ ws.length 0 0 0 [] ws ra rn 0 0) L 5 = at_ := got_two _ L 5 at_ (by omega) rfl rfl
    have g7 : gotW (enc 23 at_ ws.length 0 0 0 [] ws ra rn 0 0) L 7 = ws.length := got_two _ L 7 _ (by omega) rfl rfl
    have e9 : (enc 23 at_ ws.length 0 0 0 [] ws ra rn 0 0).getD 9 0 = 2 * (ws.length : Int) := rfl
    have hu : wordsAt (enc 23 at_ ws.length 0 0 0 [] ws ra rn 0 0) 10 ws.length = ws := by
      rw [← wordsAt_drop]
      exact wordsAt_flat ws hx
    rw [cand_23 rfl, g1, g3, g5, g7, e9, if_pos ⟨by omega, by omega, by omega⟩, Int.toNat_natCast, hu]
  all_goals
    obtain rfl : bs = [] := List.eq_nil_of_length_eq_zero (by omega)
    obtain rfl : ws = [] := List.eq_nil_of_length_eq_zero (by omega)
    obtain rfl : ra = 0 := by omega
    obtain rfl : rn = 0 := by omega
  case inr.inr.inr.inr.inl =>
    obtain rfl : n = 0 := by omega
    obtain rfl : an = 0 := by omega
    obtain rfl : orr = 0 := by omega
    obtain rfl : co = 0 := by omega
    obtain rfl : ob = 0 := by omega
    obtain rfl : L = 5 := by rw [← hL, enc_5]; rfl
    have g1 : gotW (enc 5 at_ 0 v 0 0 [] [] 0 0 0 0) 5 1 = at_ := got_two _ 5 1 at_ (by omega) rfl rfl
    have g3 : gotW (enc 5 at_ 0 v 0 0 [] [] 0 0 0 0) 5 3 = v * 65280 := got_two _ 5 3 _ (by omega) rfl rfl
    rw [cand_5 rfl, g1, g3]
    rcases (by omega : v = 0 ∨ v = 1) with rfl | rfl
    · rw [if_pos ⟨rfl, rfl⟩]
    · rw [if_neg (by omega), if_pos ⟨rfl, rfl⟩]
  case inr.inr.inr.inr.inr.inl =>
    obtain rfl : n = 0 := by omega
    obtain rfl : an = 0 := by omega
    obtain rfl : orr = 0 := by omega
    obtain rfl : co = 0 := by omega
    obtain rfl : ob = 0 := by omega
    obtain rfl : L = 5 := by rw [← hL, enc_6]; rfl
    have g1 : gotW (enc 6 at_ 0 v 0 0 [] [] 0 0 0 0) 5 1 = at_ := got_two _ 5 1 at_ (by omega) rfl rfl
    have g3 : gotW (enc 6 at_ 0 v 0 0 [] [] 0 0 0 0) 5 3 = v := got_two _ 5 3 _ (by omega) rfl rfl
    rw [cand_6 rfl, g1, g3, if_pos rfl]
  case inr.inr.inr.inr.inr.inr.inr.inr.inl =>
    obtain rfl : n = 0 := by omega
    obtain rfl : v = 0 := by omega
    obtain rfl : co = 0 := by omega
    obtain rfl : ob = 0 := by omega
    obtain rfl : L = 7 := by rw [← hL, enc_22]; rfl
    have g1 : gotW (enc 22 at_ 0 0 an orr [] [] 0 0 0 0) 7 1 = at_ := got_two _ 7 1 at_ (by omega) rfl rfl
    have g3 : gotW (enc 22 at_ 0 0 an orr [] [] 0 0 0 0) 7 3 = an := got_two _ 7 3 _ (by omega) rfl rfl
    have g5 : gotW (enc 22 at_ 0 0 an orr [] [] 0 0 0 0) 7 5 = orr := got_two _ 7 5 _ (by omega) rfl rfl
    rw [cand_22 rfl, g1, g3, g5, if_pos rfl]
  case inr.inr.inr.inr.inr.inr.inr.inr.inr.inr.inl =>
    obtain rfl : at_ = 0 := by omega
    obtain rfl : n = 0 := by omega
    obtain rfl : v = 0 := by omega
    obtain rfl : an = 0 := by omega
    obtain rfl : orr = 0 := by omega
    obtain rfl : L = 4 := by rw [← hL, enc_43]; rfl
    rw [cand_43 rfl, if_pos rfl]
    rfl
  all_goals
    obtain rfl : v = 0 := by omega
    obtain rfl : an = 0 := by omega
    obtain rfl : orr = 0 := by omega
    obtain rfl : co = 0 := by omega
    obtain rfl : ob = 0 := by omega
    rw [enc_read _ _ _ _ _ _ _ _ _ _ _ _ (by omega)] at hL ⊢
    obtain rfl : L = 5 := by rw [← hL]; rfl
    exact cand_five _ at_ n (by omega)

theorem zeroCells_one (z : Value) (m : Nat) (hz : z.cells = #[z]) : Builtin.zeroCells z.cells m = (List.replicate m z).toArray := by
  unfold Builtin.zeroCells
  rw [hz]
  apply Array.toList_inj.1
  simp [Nat.mod_one]
  apply List.ext_getElem
  · simp
  · intro i h1 h2
    simp

theorem run_made_room {P : Program} (w : World) (t u ty e : TypeId) (i : TypeInfo) (z : Value) (ht : P.underlying t = some (.slice e)) (hu : P.underlying u = some (.int .i64)) (hi : P.info? e = some i) (hz : i.zero = some z) (hzc : z.cells = #[z]) (hsz : i.size = 1) (h1 : z.oneCell' = true)
    (g n cap : Nat) (cur : Array Value) (hg : w.heap[g]? = some (.cells cur e (0, 0))) (m : Nat) (hm0 : 0 < m) (hm : m ≤ 1000000) (hby : i.bytes ≤ 1000) (hroom : n + m ≤ cap) (hfit : n + m ≤ cur.size) :
    (Builtin.append_ #[t, u] ty #[.slice (some ⟨g, 0, none⟩) n cap, .int .i64 (m : Int)]).run P w = .ok (.slice (some ⟨g, 0, none⟩) (n + m) cap) (w.setRow g (cur.toList.take n ++ List.replicate m z ++ cur.toList.drop (n + m)).toArray) := by
  have hst := run_storeCells_at P g n e (List.replicate m z) 0 cur w hg (by simp; omega) (fun v hv => by rw [List.eq_of_mem_replicate hv]; exact h1)
  simp only [Nat.add_zero, List.length_replicate] at hst
  have hw : IntKind.i64.wrap (m : Int) = (m : Int) := IntWalk.i64_in _ (by omega)
  have hl : ¬ ((m : Int) < 0) := by omega
  have hbb : m * i.bytes ≤ 1000000 * 1000 := Nat.mul_le_mul hm hby
  have hb : ¬ (281474976710656 < (m : Int) * (i.bytes : Int)) := by
    have : (m : Int) * (i.bytes : Int) = ((m * i.bytes : Nat) : Int) := by simp
    rw [this]; omega
  have hm1 : ¬ m = 0 := by omega
  simp [Builtin.append_, run_underlying ht, run_underlying hu, sizeOf, typeInfo, zeroValue, hi, hz, asInt, asIntOf, hw, hl, hb, hroom, hsz, hm1, zeroCells_one z m hzc, Addr.add_lit, hst]

theorem run_made_grow {P : Program} (w : World) (t u ty e : TypeId) (i : TypeInfo) (z : Value) (ht : P.underlying t = some (.slice e)) (hu : P.underlying u = some (.int .i64)) (hi : P.info? e = some i) (hz : i.zero = some z) (hzc : z.cells = #[z]) (hsz : i.size = 1)
    (b : Addr) (n cap : Nat) (olds : List Value) (hlo : olds.length = n) (holds : ∀ j v, olds[j]? = some v → w.cell? (b.add j) = some v) (m : Nat) (hm0 : 0 < m) (hm : n + m ≤ 1000000) (hby : i.bytes ≤ 1000) (hg : cap < n + m) (hfit : Builtin.nextslicecap (n + m) cap * i.bytes ≤ 281474976710656) :
    (Builtin.append_ #[t, u] ty #[.slice (some b) n cap, .int .i64 (m : Int)]).run P w =
      .ok (.slice (some ⟨w.heap.size, 0, none⟩) (n + m) (grownCap w (n + m) cap e))
        (w.drew.alloc (.cells (olds.toArray ++ (List.replicate m z).toArray ++ Builtin.zeroCells z.cells (grownCap w (n + m) cap e - (n + m))) e)) := by
  have hn : ¬ (n + m ≤ cap) := by omega
  have h63' : ¬ (9223372036854775807 < ((n : Int) + (m : Int))) := by omega
  have h48' : ¬ (281474976710656 < Builtin.nextslicecap (n + m) cap * i.bytes) := by omega
  have hfo := run_firstCells_some (P := P) w.drew i.size n b n cap olds (by rw [hsz, hlo, Nat.mul_one]) (by simpa using holds)
  have hw : IntKind.i64.wrap (m : Int) = (m : Int) := IntWalk.i64_in _ (by omega)
  have hl : ¬ ((m : Int) < 0) := by omega
  have hbb : m * i.bytes ≤ 1000000 * 1000 := Nat.mul_le_mul (by omega) hby
  have hb : ¬ (281474976710656 < (m : Int) * (i.bytes : Int)) := by
    have : (m : Int) * (i.bytes : Int) = ((m * i.bytes : Nat) : Int) := by simp
    rw [this]; omega
  have hm1 : ¬ m = 0 := by omega
  rw [hsz] at hfo
  simp [Builtin.append_, run_underlying ht, run_underlying hu, sizeOf, typeInfo, zeroValue, hi, hz, asInt, asIntOf, hw, hl, hb, hn, h63', h48', hsz, hm1, zeroCells_one z m hzc, Question.forced, hfo, newRow, grownCap]
  try (congr 2; apply Array.ext'; simp [List.append_assoc])

/-- So many noughts behind a row of the call's own. -/
theorem run_append_made {P : Program} (w : World) (base : Nat) (t u ty e : TypeId) (z : Value) (bytes : Nat) (ht : P.underlying t = some (.slice e)) (hu : P.underlying u = some (.int .i64)) (hi : (P.info? e).map (fun i => (i.zero, i.size, i.bytes)) = some (some z, 1, bytes)) (hzc : z.cells = #[z]) (h1 : z.oneCell' = true)
    (v : Value) (n : Nat) (xs : List Value) (hown : w.ownsRow base e 1 v n xs) (hn0 : 0 < n) (m : Nat) (hm0 : 0 < m) (hm : n + m ≤ 1000000) (hby : bytes ≤ 1000) (hbase : base ≤ w.heap.size) :
    ∃ v' w', (Builtin.append_ #[t, u] ty #[v, .int .i64 (m : Int)]).run P w = .ok v' w' ∧ w'.ownsRow base e 1 v' (n + m) (xs ++ List.replicate m z) ∧ w.grownBy w' v.ownBlock ∧ (v'.ownBlock = v.ownBlock ∨ v'.ownBlock = some w.heap.size) := by
  obtain ⟨i, hi0, hz0, hz1, hz2⟩ := info_parts hi
  have hbb : (n + m) * bytes ≤ 1000000 * 1000 := Nat.mul_le_mul hm hby
  have hlen : (xs ++ List.replicate m z).length = (n + m) * 1 := by rw [List.length_append, hown.1, List.length_replicate]; omega
  rcases hown.2 with ⟨_, h0⟩ | ⟨g, cap, cur, rfl, hbg, hg, hnc, hcm, hcs, htake⟩
  · omega
  · by_cases hroom : n + m ≤ cap
    · have hfit : n + m ≤ cur.size := by rw [hcs]; omega
      have hr := run_made_room (P := P) w t u ty e i z ht hu hi0 hz0 hzc hz1 h1 g n cap cur hg m hm0 (by omega) (by omega) hroom hfit
      refine ⟨_, _, hr, ⟨hlen, .inr ⟨g, cap, _, rfl, hbg, setRow_heap w g cur _ e _ hg, hroom, hcm, ?_, ?_⟩⟩, ⟨rfl, rfl, rfl, by simp, fun k _ hk => setRow_other w g k _ (fun e => hk (by simp [Value.ownBlock, e]))⟩, Or.inl rfl⟩
      · simp only [List.size_toArray, List.length_append, List.length_take, List.length_drop, Array.length_toList, List.length_replicate]
        omega
      · rw [Nat.mul_one] at htake
        rw [htake, ← hlen]
        exact List.take_left
    · have holds : ∀ j u, xs[j]? = some u → w.cell? ((⟨g, 0, none⟩ : Addr).add j) = some u := hown.cells (g := g) rfl
      have hr := run_made_grow (P := P) w t u ty e i z ht hu hi0 hz0 hzc hz1 ⟨g, 0, none⟩ n cap xs (by have := hown.1; omega) holds m hm0 hm (by omega) (by omega) (growslice_fits (by omega) (by rw [hz2]; omega))
      have hge := grownCap_ge w (n + m) cap e
      have hcm2 : grownCap w (n + m) cap e ≤ maxLen := grownCap_le_maxLen w (n + m) cap e (by simp only [maxLen]; omega)
      refine ⟨_, _, hr, ⟨hlen, .inr ⟨w.heap.size, _, _, rfl, hbase, heap_alloc_new w.drew _, hge, hcm2, ?_, ?_⟩⟩, ⟨rfl, rfl, rfl, by simp, fun k hk _ => heap_alloc_old w.drew _ hk⟩, Or.inr rfl⟩
      · have hx := hown.1
        have h1s : (#[z] : Array Value).size = 1 := rfl
        simp only [Array.size_append, List.size_toArray, size_zeroCells, hzc, List.length_replicate, h1s]
        omega
      · simp only [Array.toList_append, List.append_assoc]
        rw [← List.append_assoc, ← hlen]
        exact List.take_left

/-- The same at the operation. -/
theorem wpList_append_made {P : Program} (w : World) {ops : Array Oper} {rest : List Oper} {o : Oper} {a : Act} {Q : Exit → Act → World → Prop} (hgd : o.guard = none) (s x : Operand) (t u : TypeId)
    (ho : o.op = .call { callee := .builtin .append, args := #[s, x], argTypes := #[t, u] })
    (base : Nat) (e : TypeId) (z : Value) (bytes : Nat) (ht : P.underlying t = some (.slice e)) (hu : P.underlying u = some (.int .i64)) (hi : (P.info? e).map (fun i => (i.zero, i.size, i.bytes)) = some (some z, 1, bytes)) (hzc : z.cells = #[z]) (h1 : z.oneCell' = true)
    (v : Value) (n : Nat) (xs : List Value) (hs : a.eval s = v) (hown : w.ownsRow base e 1 v n xs) (hn0 : 0 < n) (m : Nat) (hx : a.eval x = .int .i64 (m : Int)) (hm0 : 0 < m) (hm : n + m ≤ 1000000) (hby : bytes ≤ 1000) (hbase : base ≤ w.heap.size)
    (h : ∀ v' w', w'.ownsRow base e 1 v' (n + m) (xs ++ List.replicate m z) → w.grownBy w' v.ownBlock → (v'.ownBlock = v.ownBlock ∨ v'.ownBlock = some w.heap.size) → wpList P ops Q rest (a.put o.dst v') w') : wpList P ops Q (o :: rest) a w := by
  refine wpList_plain hgd fun _ hK => ?_
  obtain ⟨v', w', hrun, h2, h3, h4⟩ := run_append_made (P := P) w base t u o.type e z bytes ht hu hi hzc h1 v n xs hown hn0 m hm0 hm hby hbase
  unfold Oper.wp execOp
  simp only [ho, resolve, invoke, builtin, Sem.run_bind, Sem.run_pure, Result.andThen_ok, List.map_toArray, List.map_cons, List.map_nil, hs, hx, hrun]
  exact hK _ _ (h v' w' h2 h3 h4)

end Go.Proofs.Ytijfeffjjcbijaa
