/- A request that writes coils, with whatever behind its bits. No function of the program. -/
import Derived.Test.YtebpilfogdenjaaPEnc
import Derived.Test.YtebpilfogdenjaaRefMore
namespace Go.Proofs.Ytebpilfogdenjaa
open Go.ChangeShapes Go.WideShapes Go.ChangeAt Go.RowKit
set_option linter.unusedVariables false
set_option linter.unusedSimpArgs false

theorem bitB_drop (zs : List Int) (j : Nat) : bitB (zs.drop 6) j = bitB zs (48 + j) := by
  unfold bitB
  rw [List.getElem?_drop, show (48 + j) / 8 = 6 + j / 8 by omega, show (48 + j) % 8 = j % 8 by omega]
/-- The bytes of a request that writes coils, its last byte another one behind its bits. -/
def Free (A : Int) (bs : List Bool) (zs : List Int) : Prop :=
  zs.length = 6 + nb bs.length ∧ Bytes8 zs ∧ (∀ i, i < 5 + nb bs.length → zs.getD i 0 = (enc 15 A bs.length 0 0 0 bs [] 0 0 0 0).getD i 0) ∧ unb (zs.drop 6) bs.length = bs
theorem free_start (A : Int) (bs : List Bool) (hx : Bytes8 (enc 15 A bs.length 0 0 0 bs [] 0 0 0 0)) : Free A bs (enc 15 A bs.length 0 0 0 bs [] 0 0 0 0) := by
  refine ⟨?_, hx, fun _ _ => rfl, ?_⟩
  · rw [enc_15, List.length_append, pk_length]; rfl
  · exact unb_pk bs
theorem free_step {A : Int} {bs : List Bool} {zs : List Int} (h : Free A bs zs) (i : Nat) (v : Bool) (h0 : 0 < bs.length % 8) (h1 : bs.length % 8 ≤ i) (h2 : i < 8) : Free A bs (setB zs (8 * (5 + nb bs.length) + i) v) := by
  obtain ⟨hl, hx, hg, hu⟩ := h
  have hq : (8 * (5 + nb bs.length) + i) / 8 = 5 + nb bs.length := by omega
  refine ⟨by rw [setB_length]; exact hl, setB_bytes hx _ _, fun j hj => ?_, ?_⟩
  · rw [← hg j hj]
    unfold setB
    rw [hq]
    simp [List.getD, List.getElem?_set, show ¬ (5 + nb bs.length = j) by omega]
  · rw [← hu]
    unfold unb
    rw [List.length_map, List.length_range]
    apply List.map_congr_left
    intro j hj
    have hj' := List.mem_range.1 hj
    rw [bitB_drop, bitB_drop, bitB_setB hx _ _ (by rw [hq, hl]; omega), if_neg (by unfold nb; omega)]
theorem free_parse {A : Int} {bs : List Bool} {zs : List Int} (h : Free A bs zs) (L : Nat) (hL : L = 6 + nb bs.length) (hr : rightP 15 A bs.length 0 0 0 bs.length 0 0 0 0 0) : parseOf zs L = (⟨15, A, bs.length, 0, 0, 0, bs, [], 0, 0, 0, 0⟩, 0) := by
  obtain ⟨hl, hx, hg, hu⟩ := h
  have hfit := hr.2.2.2.2
  have ha := hr.2.2.1
  unfold fitsP at hfit
  have hm : kMostW 15 = 1968 := rfl
  have hb : 1 ≤ nb bs.length := by unfold nb; omega
  have hb2 : nb bs.length ≤ 246 := by unfold nb; omega
  have e0 : zs.getD 0 0 = 15 := hg 0 (by omega)
  have e1 : zs.getD 1 0 = A / 256 := hg 1 (by omega)
  have e2 : zs.getD 2 0 = A % 256 := hg 2 (by omega)
  have e3 : zs.getD 3 0 = (bs.length : Int) / 256 := hg 3 (by omega)
  have e4 : zs.getD 4 0 = (bs.length : Int) % 256 := hg 4 (by omega)
  have e5 : zs.getD 5 0 = ((nb bs.length : Nat) : Int) := hg 5 (by omega)
  have g1 : gotW zs L 1 = A := by
    unfold gotW
    rw [if_pos (by omega)]
    show zs.getD 1 0 * 256 + zs.getD 2 0 = A
    rw [e1, e2]; omega
  have g3 : gotW zs L 3 = bs.length := by
    unfold gotW
    rw [if_pos (by omega)]
    show zs.getD 3 0 * 256 + zs.getD 4 0 = _
    rw [e3, e4]; omega
  refine parse_right zs L 15 _ e0 rfl (by omega) (by omega) (fun h => by omega) ?_ hr
  rw [cand_15 e0, g1, g3, e5, if_pos ⟨by omega, by omega, nbI_nat _⟩, Int.toNat_natCast, hu]

theorem own_raise {w : World} {b b' g : Nat} {e : TypeId} {n c : Nat} {xs : List Value} (h : w.ownsRow b e 1 (.slice (some ⟨g, 0, none⟩) n c) n xs) (hb : b' ≤ g) : w.ownsRow b' e 1 (.slice (some ⟨g, 0, none⟩) n c) n xs := by
  refine ⟨h.1, ?_⟩
  rcases h.2 with ⟨h0, _⟩ | ⟨g', cap, cur, hv, hg, rest⟩
  · cases h0
  · refine .inr ⟨g', cap, cur, hv, ?_, rest⟩
    injection hv with e1
    injection e1 with e1
    injection e1 with e1
    omega
/-- One bit behind the bits, set by the document's Set. -/
theorem set_free (A : Int) (bs : List Bool) (zs : List Int) (B : Option Addr) (L c j : Nat) (i : Int) (v : Bool) (w : World) (hf : Free A bs zs) (hr : Row .u8 w w.heap.size B L zs) (hL : L = 6 + nb bs.length) (hi : i = 8 * ((L : Int) - 1) + (j : Int)) (h0 : 0 < bs.length % 8) (h1 : bs.length % 8 ≤ j) (h2 : j < 8) (hl : L ≤ 1000) :
    Calls Try.prog 17 #[.slice B L c, .int .i64 i, .bool v] w fun e w' => ∃ C d ys, e = .returned (.slice C L d) ∧ Row .u8 w' w'.heap.size C L ys ∧ Free A bs ys ∧ ys = zs.set (L - 1) (ys.getD (L - 1) 0) ∧ Below w.heap.size w w' := by
  refine (refset_any B L c zs i v w hr hf.2.1 (by omega) (by omega) (by omega)).mono ?_
  rintro e w' ⟨C, d, he, hr', hb⟩
  have hk : i = ((8 * (5 + nb bs.length) + j : Nat) : Int) := by omega
  rw [hk, setI_in _ _ _ _ (by omega)] at hr'
  refine ⟨C, d, _, he, hr', free_step hf j v h0 h1 h2, ?_, hb⟩
  have hl' := hf.1
  have hq : (8 * (5 + nb bs.length) + j) / 8 = L - 1 := by omega
  unfold setB
  rw [hq]
  have hlt : L - 1 < zs.length := by omega
  simp [List.getD, hlt]

/-- A byte that tells another number of bytes. -/
theorem parse_turned (fn at_ n v an orr : Int) (bs : List Bool) (ws : List Int) (ra rn co ob : Int) (hr : rightP fn at_ n v an orr bs.length ws.length ra rn co ob) (p : Nat) (hp : ((fn = 15 ∨ fn = 16) ∧ p = 5) ∨ (fn = 23 ∧ p = 9)) (L : Nat) (hL : (enc fn at_ n v an orr bs ws ra rn co ob).length = L) (y : Int) (hy : (enc fn at_ n v an orr bs ws ra rn co ob).getD p 0 + 1 = y) :
    parseOf ((enc fn at_ n v an orr bs ws ra rn co ob).set p y) L = (⟨fn, 0, 0, 0, 0, 0, [], [], 0, 0, 0, 0⟩, 3) := by
  have hl := enc_length at_ n v an orr bs ws ra rn co ob fn hr
  have h0 : ((enc fn at_ n v an orr bs ws ra rn co ob).set p y).getD 0 0 = fn := by
    refine Eq.trans ?_ (enc_first at_ n v an orr bs ws ra rn co ob fn)
    simp [List.getD, List.getElem?_set, show ¬ p = 0 by omega]
  have hpl : p < (enc fn at_ n v an orr bs ws ra rn co ob).length := by omega
  have hpp : ((enc fn at_ n v an orr bs ws ra rn co ob).set p y).getD p 0 = y := by simp [List.getD, hpl]
  refine parse_wrong _ L fn h0 hr.1 (by omega) (by omega) (fun h => by omega) ?_
  rcases hp with ⟨rfl | rfl, rfl⟩ | ⟨rfl, rfl⟩
  · rw [cand_15 h0, hpp, if_neg]
    rintro ⟨_, h2, _⟩
    rw [enc_15] at hL hy
    rw [List.length_append, pk_length] at hL
    simp at hL hy
    omega
  · rw [cand_16 h0, hpp, if_neg]
    rintro ⟨_, h2, _⟩
    rw [enc_16] at hL hy
    rw [List.length_append, flat_length] at hL
    simp at hL hy
    omega
  · rw [cand_23 h0, hpp, if_neg]
    rintro ⟨_, h2, _⟩
    rw [enc_23] at hL hy
    rw [List.length_append, flat_length] at hL
    simp at hL hy
    omega
theorem enc_count (fn at_ n v an orr : Int) (bs : List Bool) (ws : List Int) (ra rn co ob : Int) (hr : rightP fn at_ n v an orr bs.length ws.length ra rn co ob) (p : Nat) (hp : ((fn = 15 ∨ fn = 16) ∧ p = 5) ∨ (fn = 23 ∧ p = 9)) : 0 ≤ (enc fn at_ n v an orr bs ws ra rn co ob).getD p 0 ∧ (enc fn at_ n v an orr bs ws ra rn co ob).getD p 0 ≤ 246 ∧ p < (enc fn at_ n v an orr bs ws ra rn co ob).length := by
  have hl := enc_length at_ n v an orr bs ws ra rn co ob fn hr
  have hfit := hr.2.2.2.2
  unfold fitsP at hfit
  rcases hp with ⟨rfl | rfl, rfl⟩ | ⟨rfl, rfl⟩
  · have hm : kMostW 15 = 1968 := rfl
    have e : (enc 15 at_ n v an orr bs ws ra rn co ob).getD 5 0 = ((nb bs.length : Nat) : Int) := rfl
    rw [e]
    have : nb bs.length ≤ 246 := by unfold nb; omega
    omega
  · have hm : kMostW 16 = 123 := rfl
    have e : (enc 16 at_ n v an orr bs ws ra rn co ob).getD 5 0 = 2 * (ws.length : Int) := rfl
    rw [e]
    omega
  · have hm : kMostW 23 = 121 := rfl
    have e : (enc 23 at_ n v an orr bs ws ra rn co ob).getD 9 0 = 2 * (ws.length : Int) := rfl
    rw [e]
    omega
theorem Bytes8.set {zs : List Int} (h : Bytes8 zs) (p : Nat) (y : Int) (y0 : 0 ≤ y) (y1 : y ≤ 255) : Bytes8 (zs.set p y) := by
  intro x hx
  rcases List.mem_or_eq_of_mem_set hx with h1 | h1
  · exact h x h1
  · omega

end Go.Proofs.Ytebpilfogdenjaa
