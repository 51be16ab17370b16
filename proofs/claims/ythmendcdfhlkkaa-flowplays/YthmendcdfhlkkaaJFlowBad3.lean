/- Joined: RefRing RefPut PlayInv. -/
import Derived.Test.YthmendcdfhlkkaaJFlowBad2
import Derived.Deep.RegionLaw
import Derived.Deep.RegionHeld3
import Derived.Test.YthmendcdfhlkkaaLentBytes
namespace Go.Proofs.Ythmendcdfhlkkaa
open Go.ChangeShapes Go.WideShapes Go.ChangeAt Go.RowKit
set_option linter.unusedVariables false
set_option linter.unusedSimpArgs false

/-- Block x is the document's queue for M bytes; qs wait, in a row of its own that is not below base. -/
structure RefAt (w : World) (x base M : Nat) (qs : List Int) : Prop where
  lt : x < base
  le : base ≤ w.heap.size
  room : qs.length ≤ M
  most : M ≤ 65536
  row : ∃ A c, WholeV w x 72 [.int .i64 (M : Int), .slice A qs.length c] ∧ w.ownsRow base 5 1 (.slice A qs.length c) qs.length (qs.map (Value.int .u8))

theorem RefAt.off {S : Nat → Prop} {w w' : World} {x base M : Nat} {qs : List Int} (h : RefAt w x base M qs) (ho : Off S w w') (hx : ¬ S x) (hb : ∀ k, base ≤ k → k < w.heap.size → ¬ S k) : RefAt w' x base M qs :=
  ⟨h.lt, Nat.le_trans h.le ho.size, h.room, h.most, by
    obtain ⟨A, c, hg, hr⟩ := h.row
    exact ⟨A, c, ho.whole hg hx, ho.own hr hb⟩⟩
theorem RefAt.below {w w' : World} {x base M : Nat} {qs : List Int} (h : RefAt w x base M qs) (hb : Below w.heap.size w w') : RefAt w' x base M qs := h.off (S := fun _ => False) (Off.of_below hb) id (fun _ _ _ => id)

/-- A new one was returned. -/
def RefNew (M : Nat) (w : World) (e : Ending) (w' : World) : Prop := ∃ x, e = .returned (.pointer (some ⟨x, 0, none⟩)) ∧ w.heap.size ≤ x ∧ RefAt w' x (x + 1) M [] ∧ Below w.heap.size w w'

theorem refnew_made (w : World) (M : Nat) (hM : M ≤ 65536) : RefAt (w.alloc (.cells #[.int .i64 (M : Int), .slice none 0 0] 72)) w.heap.size (w.heap.size + 1) M [] :=
  ⟨by omega, by simp, by simp, hM, none, 0, heap_alloc_new w _, own_none _ _ _⟩

theorem refnew_any (most : Int) (M : Nat) (w : World) (h0 : -9223372036854775808 ≤ most) (h1 : most ≤ 9223372036854775807) (hM : (M : Int) = if 65536 < (if most < 0 then 0 else most) then 65536 else (if most < 0 then 0 else most)) :
    Calls Try.prog 70 #[.int .i64 most] w (RefNew M w) := by
  have hM2 : M ≤ 65536 := by split at hM <;> split at hM <;> omega
  have HN := Lib.hid (refnew_made w M hM2)
  have HB : Hid (∀ o, Below w.heap.size w (w.alloc o)) := fun o => (Below.refl _ _).alloc (Nat.le_refl _) o
  by_cases hn : most < 0
  · obtain rfl : M = 0 := by rw [if_pos hn] at hM; simpa using hM
    clear hM hM2 h0
    go_enter Try.func70, Try.ntmps70
    go_wp2
    go_ret
    exact ⟨_, rfl, Nat.le_refl _, HN.out, HB.out _⟩
  · by_cases hx : 65536 < most
    · obtain rfl : M = 65536 := by rw [if_neg hn, if_pos hx] at hM; omega
      clear hM hM2 h0
      go_enter Try.func70, Try.ntmps70
      go_wp2
      go_ret
      exact ⟨_, rfl, Nat.le_refl _, HN.out, HB.out _⟩
    · obtain rfl : (M : Int) = most := by rw [hM, if_neg hn, if_neg hx]
      clear hM hM2 h0
      go_enter Try.func70, Try.ntmps70
      go_wp2
      go_ret
      exact ⟨_, rfl, Nat.le_refl _, HN.out, HB.out _⟩

section
variable (w : World) (x base M : Nat) (qs : List Int)

/-- What the document's Look leaves. -/
def RefLooked (m : Nat) (e : Ending) (w' : World) : Prop := ∃ A c, e = .returned (.slice A m c) ∧ w'.ownsRow w.heap.size 5 1 (.slice A m c) m ((qs.take m).map (Value.int .u8)) ∧ Below w.heap.size w w'

set_option maxRecDepth 100000 in
set_option maxHeartbeats 1000000 in
theorem reflook_any (n : Int) (m : Nat) (h : RefAt w x base M qs) (hm : Cnt n qs.length m) :
    Calls Try.prog 119 #[.pointer (some ⟨x, 0, none⟩), .int .i64 n] w (RefLooked w qs m) := by
  obtain ⟨A, c, hg, hr⟩ := h.row
  have h1 := hg.cell 1
  simp only [List.getElem?_cons_succ, List.getElem?_cons_zero] at h1
  have hqc := own_capI hr
  have hmq := hm.le
  have hM := h.most
  have hqM := h.room
  have HRV : Hid (RowV w w.heap.size A m ((qs.take m).map (Value.int .u8))) := by
    have h2 := own_row hr
    rw [← List.take_append_drop m qs, List.map_append] at h2
    have e : qs.length = m + (qs.length - m) := by omega
    have h3 : RowV w w.heap.size A (m + (qs.length - m)) ((qs.take m).map (Value.int .u8) ++ (qs.drop m).map (Value.int .u8)) := by
      have h4 := h2
      rw [List.take_append_drop] at h4
      rwa [e] at h4
    exact h3.front (by rw [List.length_map, List.length_take]; omega)
  have HHM := Lib.hid hm
  obtain ⟨q, hq⟩ : ∃ q, qs.length = q := ⟨_, rfl⟩
  rw [hq] at h1 hqc hmq hqM HHM
  have hmc : (m : Int) ≤ (c : Int) := by omega
  have KS : Hid (∀ W, Below w.heap.size w W → W.cell? ⟨x, 1, none⟩ = some (.slice A q c) ∧ Below w.heap.size w W) := fun W hW => ⟨(hW.cell (p := ⟨x, 1, none⟩) hg.lt).trans h1, hW⟩
  obtain ⟨X, hX⟩ : ∃ X, X = (qs.take m).map (Value.int .u8) := ⟨_, rfl⟩
  have H1 : Hid (∀ u ∈ X, u.oneCell' = true) := by rw [hX]; exact one_cells _ _
  unfold RefLooked
  rw [← hX] at HRV ⊢
  clear hX
  clear h hg hr hq hm
  rcases HHM.out with ⟨hn, hm0⟩ | ⟨hn, hnm, hle⟩ | ⟨hn, hmq2⟩
  · subst hm0
    have e1 : (if (q : Int) < 0 then (q : Int) else 0) = 0 := if_neg (by omega)
    clear HHM
    go_enter Try.func119, Try.ntmps119
    go_wp2
    go_region_held3 (fun W => W.cell? ⟨x, 1, none⟩ = some (.slice A q c) ∧ Below w.heap.size w W) (first | exact KS.out _ (Below.refl _ _).drew | exact KS.out _ HB1.out)
      (first
      | (refine step_append_to (.const (.slice none 0 0)) (.tmp 17) 22 w.heap.size 5 (.int .u8 0) 1 Try.underlying22 info5 rfl (.slice none 0 0) 0 [] 0 X 0 X (by omega) rfl H1.out (by omega) (by omega) ⟨rfl, rfl, rfl⟩ (own_none _ _ _) ⟨A, c, by first | rfl | (simp [eval_put_tmp, size_put]; done) | (simp [eval_put_tmp, size_put]; simp [Act.eval]; done) | (simp [Act.eval]; done), (HRV.out.below ((Below.refl _ _).drew)).more (Nat.le_refl _)⟩ (Nat.le_refl _) ?_
         intro A1 c1 w1 hown1 hg1
         have HO1 := Lib.hid hown1
         have HB1 := Lib.hid (below_append (Below.refl w.heap.size w).drew (own_none _ _ 5) hg1 (Nat.le_refl _))
         clear hown1 hg1))
    all_goals
      go_wp2
      go_ret
      exact ⟨A1, c1, rfl, HO1.out, HB1.out⟩
  · subst hnm
    have e1 : (if (m : Int) < 0 then 0 else (m : Int)) = (m : Int) := if_neg (by omega)
    have e2 : (if q < m then (q : Int) else (m : Int)) = (m : Int) := if_neg (by omega)
    clear HHM
    go_enter Try.func119, Try.ntmps119
    go_wp2
    go_region_held3 (fun W => W.cell? ⟨x, 1, none⟩ = some (.slice A q c) ∧ Below w.heap.size w W) (first | exact KS.out _ (Below.refl _ _).drew | exact KS.out _ HB1.out)
      (first
      | (refine step_append_to (.const (.slice none 0 0)) (.tmp 17) 22 w.heap.size 5 (.int .u8 0) 1 Try.underlying22 info5 rfl (.slice none 0 0) 0 [] m X m X (by omega) rfl H1.out (by omega) (by omega) ⟨rfl, rfl, rfl⟩ (own_none _ _ _) ⟨A, c, by first | rfl | (simp [eval_put_tmp, size_put]; done) | (simp [eval_put_tmp, size_put]; simp [Act.eval]; done) | (simp [Act.eval]; done), (HRV.out.below ((Below.refl _ _).drew)).more (Nat.le_refl _)⟩ (Nat.le_refl _) ?_
         intro A1 c1 w1 hown1 hg1
         have HO1 := Lib.hid hown1
         have HB1 := Lib.hid (below_append (Below.refl w.heap.size w).drew (own_none _ _ 5) hg1 (Nat.le_refl _))
         clear hown1 hg1))
    all_goals
      go_wp2
      go_ret
      exact ⟨A1, c1, rfl, HO1.out, HB1.out⟩
  · subst hmq2
    have e1 : (if n < 0 then 0 else n) = n := if_neg (by omega)
    have e2 : (if (m : Int) < n then (m : Int) else n) = (m : Int) := if_pos hn
    clear HHM
    go_enter Try.func119, Try.ntmps119
    go_wp2
    go_region_held3 (fun W => W.cell? ⟨x, 1, none⟩ = some (.slice A m c) ∧ Below w.heap.size w W) (first | exact KS.out _ (Below.refl _ _).drew | exact KS.out _ HB1.out)
      (first
      | (refine step_append_to (.const (.slice none 0 0)) (.tmp 17) 22 w.heap.size 5 (.int .u8 0) 1 Try.underlying22 info5 rfl (.slice none 0 0) 0 [] m X m X (by omega) rfl H1.out (by omega) (by omega) ⟨rfl, rfl, rfl⟩ (own_none _ _ _) ⟨A, c, by first | rfl | (simp [eval_put_tmp, size_put]; done) | (simp [eval_put_tmp, size_put]; simp [Act.eval]; done) | (simp [Act.eval]; done), (HRV.out.below ((Below.refl _ _).drew)).more (Nat.le_refl _)⟩ (Nat.le_refl _) ?_
         intro A1 c1 w1 hown1 hg1
         have HO1 := Lib.hid hown1
         have HB1 := Lib.hid (below_append (Below.refl w.heap.size w).drew (own_none _ _ 5) hg1 (Nat.le_refl _))
         clear hown1 hg1))
    all_goals
      go_wp2
      go_ret
      exact ⟨A1, c1, rfl, HO1.out, HB1.out⟩

theorem row_drop {w : World} {B b q : Nat} {vs : List Value} (h : RowV w B (some ⟨b, 0, none⟩) q vs) (m : Nat) (hm : m ≤ q) : RowV w B (some ⟨b, m, none⟩) (q - m) (vs.drop m) := by
  refine ⟨by rw [List.length_drop, h.1], fun h0 => ?_⟩
  obtain ⟨b', off, e, hlt, hc⟩ := h.2 (by omega)
  injection e with e
  injection e with e1 e2
  subst e1 e2
  refine ⟨b, m, rfl, hlt, fun j hj => ?_⟩
  have := hc (m + j) (by omega)
  rw [Nat.zero_add] at this
  rw [this, List.getElem?_drop]

/-- What the document's Take leaves. -/
def RefTaken (m : Nat) (e : Ending) (w' : World) : Prop := ∃ A c, e = .returned (.slice A m c) ∧ w'.ownsRow w.heap.size 5 1 (.slice A m c) m ((qs.take m).map (Value.int .u8)) ∧ RefAt w' x w.heap.size M (qs.drop m) ∧ Off (fun k => k = x) w w'

theorem reftaken_end (h : RefAt w x base M qs) (m : Nat) (hm : m ≤ qs.length) (A0 A1 A2 : Option Addr) (c0 c1 c2 : Nat) (w1 w2 : World) (hg : WholeV w x 72 [.int .i64 (M : Int), .slice A0 qs.length c0])
    (ho1 : w1.ownsRow w.heap.size 5 1 (.slice A1 m c1) m ((qs.take m).map (Value.int .u8))) (hb1 : Below w.heap.size w w1)
    (ho2 : w2.ownsRow w1.heap.size 5 1 (.slice A2 (qs.length - m) c2) (qs.length - m) ((qs.drop m).map (Value.int .u8))) (hb2 : Below w1.heap.size w1 w2) :
    RefTaken w x M qs m (.returned (.slice A1 m c1)) (w2.setCell ⟨x, 1, none⟩ (.slice A2 (qs.length - m) c2)) := by
  have hx : x < w.heap.size := hg.lt
  have hb : Below w.heap.size w w2 := hb1.trans (hb2.mono hb1.size)
  have hg2 : WholeV w2 x _ _ := hg.below hb hx
  refine ⟨A1, c1, rfl, ownsRow_setCell_below (own_keep ho1 hb2) (a := ⟨x, 1, none⟩) hx _, ⟨hx, ?_, by rw [List.length_drop]; have := h.room; omega, h.most, A2, c2, ?_, ?_⟩, (Off.of_below (S := fun k => k = x) hb).setCell (p := ⟨x, 1, none⟩) (.inl rfl) _⟩
  · have := hb.size
    simp [World.setCell]
    omega
  · rw [List.length_drop]
    exact hg2.set 1 (.slice A2 (qs.length - m) c2)
  · rw [List.length_drop]
    exact ownsRow_setCell_below (own_mono ho2 hb1.size) (a := ⟨x, 1, none⟩) hx _

set_option maxRecDepth 100000 in
set_option maxHeartbeats 2000000 in
theorem reftake_any (n : Int) (m : Nat) (h : RefAt w x base M qs) (hm : Cnt n qs.length m) :
    Calls Try.prog 78 #[.pointer (some ⟨x, 0, none⟩), .int .i64 n] w (RefTaken w x M qs m) := by
  obtain ⟨A, c, hg, hr⟩ := h.row
  have CL := Lib.hid (reflook_any w x base M qs n m h hm)
  have HE := Lib.hid (reftaken_end w x base M qs h m hm.le A)
  have h1 := hg.cell 1
  simp only [List.getElem?_cons_succ, List.getElem?_cons_zero] at h1
  have hqc := own_capI hr
  have hmq := hm.le
  have hM := h.most
  have hqM := h.room
  have HG := Lib.hid hg
  have HRW := Lib.hid hr
  obtain ⟨X, hX⟩ : ∃ X, X = (qs.drop m).map (Value.int .u8) := ⟨_, rfl⟩
  have H1 : Hid (∀ u ∈ X, u.oneCell' = true) := by rw [hX]; exact one_cells _ _
  rw [← hX] at HE
  have HX := Lib.hid hX
  have hx : x < w.heap.size := hg.lt
  obtain ⟨q, hq⟩ : ∃ q, qs.length = q := ⟨_, rfl⟩
  rw [hq] at h1 hqc hmq hqM HE HG HRW
  have HQ := Lib.hid hq
  have hmc : (m : Int) ≤ (c : Int) := by omega
  have hmq2 : (m : Int) ≤ (q : Int) := by omega
  clear h hg hr hq hm hX
  rcases HRW.out.2 with ⟨hv, h0⟩ | ⟨b0, cap, cur, hv, _⟩
  · injection hv with e1 e2 e3
    subst e1
    subst e3
    subst h0
    obtain rfl : m = 0 := by omega
    have HR0 : Hid (RowV w w.heap.size none 0 X) := by
      rw [HX.out, List.eq_nil_of_length_eq_zero (show (qs.drop 0).length = 0 by have := HQ.out; rw [List.length_drop]; omega)]
      exact RowV.nil
    go_enter Try.func78, Try.ntmps78
    go_wp2_with (first
      | (go_at_call 119
         (with_reducible refine CL.out.mono ?_)
         rintro e w1 ⟨A1, c1, rfl, ho1, hb1⟩
         have HB1 := Lib.hid hb1
         have HO1 := Lib.hid ho1
         have c11 : w1.cell? ⟨x, 1, none⟩ = some (.slice none 0 0) := (hb1.cell (p := ⟨x, 1, none⟩) hx).trans h1
         have f11 : w1.frozen? ⟨x, 1, none⟩ = false := (hb1.frozen (p := ⟨x, 1, none⟩) hx).trans (HG.out.frozen 1)
         have HS1 : Hid (RowV w1 w1.heap.size none 0 X) := (HR0.out.below hb1).more hb1.size
         have HO0 := Lib.hid (own_none w1 w1.heap.size 5)
         clear hb1 ho1)
      | (at_builtin
         refine wpList_append_row _ (o := ⟨some 17, _, _, _, _, _⟩) rfl (.const (.slice none 0 0)) (.tmp 16) 22 rfl w1.heap.size 5 (.int .u8 0) 1 Try.underlying22 info5 rfl (.slice none 0 0) 0 [] rfl HO0.out _ none 0 0 _ rfl HS1.out H1.out (by omega) (by omega) (Nat.le_refl _) ?_
         intro v2 w2 hown2 hg2 hat2
         rw [Nat.zero_add, List.nil_append] at hown2
         obtain ⟨A2, c2, rfl⟩ := own_slice hown2
         have HB2 := Lib.hid (below_append (Below.refl _ _) HO0.out hg2 (Nat.le_refl _))
         have HO2 := Lib.hid hown2
         have c21 : w2.cell? ⟨x, 1, none⟩ = some (.slice none 0 0) := (HB2.out.cell (p := ⟨x, 1, none⟩) (Nat.lt_of_lt_of_le hx HB1.out.size)).trans c11
         have f21 : w2.frozen? ⟨x, 1, none⟩ = false := (HB2.out.frozen (p := ⟨x, 1, none⟩) (Nat.lt_of_lt_of_le hx HB1.out.size)).trans f11
         clear hown2 hg2 hat2))
    go_ret
    exact HE.out A1 A2 0 c1 c2 w1 w2 HG.out HO1.out HB1.out HO2.out HB2.out
  · injection hv with e1 e2 e3
    subst e1
    subst e3
    have HR0 := Lib.hid (own_row HRW.out)
    by_cases hcm : c = m
    · have hqm : q = m := by omega
      subst hcm
      subst hqm
      have HR1 : Hid (RowV w w.heap.size (some ⟨b0, 0, none⟩) 0 X) := by
        rw [HX.out, List.eq_nil_of_length_eq_zero (show (qs.drop q).length = 0 by have := HQ.out; rw [List.length_drop]; omega)]
        exact RowV.nil
      rw [Nat.sub_self] at HE
      go_enter Try.func78, Try.ntmps78
      go_wp2_with (first
        | (go_at_call 119
           (with_reducible refine CL.out.mono ?_)
           rintro e w1 ⟨A1, c1, rfl, ho1, hb1⟩
           have HB1 := Lib.hid hb1
           have HO1 := Lib.hid ho1
           have c11 : w1.cell? ⟨x, 1, none⟩ = some (.slice (some ⟨b0, 0, none⟩) q q) := (hb1.cell (p := ⟨x, 1, none⟩) hx).trans h1
           have f11 : w1.frozen? ⟨x, 1, none⟩ = false := (hb1.frozen (p := ⟨x, 1, none⟩) hx).trans (HG.out.frozen 1)
           have HS1 : Hid (RowV w1 w1.heap.size (some ⟨b0, 0, none⟩) 0 X) := (HR1.out.below hb1).more hb1.size
           have HO0 := Lib.hid (own_none w1 w1.heap.size 5)
           clear hb1 ho1)
        | (at_builtin
           refine wpList_append_row _ (o := ⟨some 17, _, _, _, _, _⟩) rfl (.const (.slice none 0 0)) (.tmp 16) 22 rfl w1.heap.size 5 (.int .u8 0) 1 Try.underlying22 info5 rfl (.slice none 0 0) 0 [] rfl HO0.out _ (some ⟨b0, 0, none⟩) 0 0 _ rfl HS1.out H1.out (by omega) (by omega) (Nat.le_refl _) ?_
           intro v2 w2 hown2 hg2 hat2
           rw [Nat.zero_add, List.nil_append] at hown2
           obtain ⟨A2, c2, rfl⟩ := own_slice hown2
           have HB2 := Lib.hid (below_append (Below.refl _ _) HO0.out hg2 (Nat.le_refl _))
           have HO2 := Lib.hid hown2
           have c21 : w2.cell? ⟨x, 1, none⟩ = some (.slice (some ⟨b0, 0, none⟩) q q) := (HB2.out.cell (p := ⟨x, 1, none⟩) (Nat.lt_of_lt_of_le hx HB1.out.size)).trans c11
           have f21 : w2.frozen? ⟨x, 1, none⟩ = false := (HB2.out.frozen (p := ⟨x, 1, none⟩) (Nat.lt_of_lt_of_le hx HB1.out.size)).trans f11
           clear hown2 hg2 hat2))
      go_ret
      exact HE.out A1 A2 q c1 c2 w1 w2 HG.out HO1.out HB1.out HO2.out HB2.out
    · have HR1 : Hid (RowV w w.heap.size (some ⟨b0, m, none⟩) (q - m) X) := by
        rw [HX.out, List.map_drop]
        exact row_drop HR0.out m hmq
      go_enter Try.func78, Try.ntmps78
      go_wp2_with (first
        | (go_at_call 119
           (with_reducible refine CL.out.mono ?_)
           rintro e w1 ⟨A1, c1, rfl, ho1, hb1⟩
           have HB1 := Lib.hid hb1
           have HO1 := Lib.hid ho1
           have c11 : w1.cell? ⟨x, 1, none⟩ = some (.slice (some ⟨b0, 0, none⟩) q c) := (hb1.cell (p := ⟨x, 1, none⟩) hx).trans h1
           have f11 : w1.frozen? ⟨x, 1, none⟩ = false := (hb1.frozen (p := ⟨x, 1, none⟩) hx).trans (HG.out.frozen 1)
           have HS1 : Hid (RowV w1 w1.heap.size (some ⟨b0, m, none⟩) (q - m) X) := (HR1.out.below hb1).more hb1.size
           have HO0 := Lib.hid (own_none w1 w1.heap.size 5)
           clear hb1 ho1)
        | (at_builtin
           refine wpList_append_row _ (o := ⟨some 17, _, _, _, _, _⟩) rfl (.const (.slice none 0 0)) (.tmp 16) 22 rfl w1.heap.size 5 (.int .u8 0) 1 Try.underlying22 info5 rfl (.slice none 0 0) 0 [] rfl HO0.out _ (some ⟨b0, m, none⟩) (q - m) (c - m) _ rfl HS1.out H1.out (by omega) (by omega) (Nat.le_refl _) ?_
           intro v2 w2 hown2 hg2 hat2
           rw [Nat.zero_add, List.nil_append] at hown2
           obtain ⟨A2, c2, rfl⟩ := own_slice hown2
           have HB2 := Lib.hid (below_append (Below.refl _ _) HO0.out hg2 (Nat.le_refl _))
           have HO2 := Lib.hid hown2
           have c21 : w2.cell? ⟨x, 1, none⟩ = some (.slice (some ⟨b0, 0, none⟩) q c) := (HB2.out.cell (p := ⟨x, 1, none⟩) (Nat.lt_of_lt_of_le hx HB1.out.size)).trans c11
           have f21 : w2.frozen? ⟨x, 1, none⟩ = false := (HB2.out.frozen (p := ⟨x, 1, none⟩) (Nat.lt_of_lt_of_le hx HB1.out.size)).trans f11
           clear hown2 hg2 hat2))
      go_ret
      exact HE.out A1 A2 c c1 c2 w1 w2 HG.out HO1.out HB1.out HO2.out HB2.out

end

section
variable (w : World) (x base M : Nat) (qs : List Int)

/-- What the document's Put leaves. -/
def RefPutten (m : Nat) (zs : List Int) (e : Ending) (w' : World) : Prop := e = .returned (.int .i64 (m : Int)) ∧ RefAt w' x w.heap.size M (qs ++ zs.take m) ∧ Off (fun k => k = x) w w'

theorem refputten_end (h : RefAt w x base M qs) (m k : Nat) (zs : List Int) (hm : (zs.take m).length = m) (hq : qs.length + m ≤ M) (hk : qs.length + m = k) (A0 A2 : Option Addr) (c0 c2 : Nat) (w2 : World) (hg : WholeV w x 72 [.int .i64 (M : Int), .slice A0 qs.length c0])
    (ho2 : w2.ownsRow w.heap.size 5 1 (.slice A2 k c2) k (qs.map (Value.int .u8) ++ (zs.take m).map (Value.int .u8))) (hb : Below w.heap.size w w2) :
    RefPutten w x M qs m zs (.returned (.int .i64 (m : Int))) (w2.setCell ⟨x, 1, none⟩ (.slice A2 k c2)) := by
  subst hk
  have hx : x < w.heap.size := hg.lt
  have hg2 : WholeV w2 x _ _ := hg.below hb hx
  refine ⟨rfl, ⟨hx, ?_, by rw [List.length_append, hm]; omega, h.most, A2, c2, ?_, ?_⟩, (Off.of_below (S := fun k => k = x) hb).setCell (p := ⟨x, 1, none⟩) (.inl rfl) _⟩
  · have := hb.size
    simp [World.setCell]
    omega
  · rw [List.length_append, hm]
    exact hg2.set 1 (.slice A2 (qs.length + m) c2)
  · rw [List.length_append, hm, List.map_append]
    exact ownsRow_setCell_below ho2 (a := ⟨x, 1, none⟩) hx _

set_option maxRecDepth 100000 in
set_option maxHeartbeats 4000000 in
theorem refput9 (A : Option Addr) (n c : Nat) (zs : List Int) (m : Nat) (h : RefAt w x base M qs) (hr : Row .u8 w w.heap.size A n zs) (hn : n ≤ 100000) (hc : n ≤ c) (hm : m = min n (M - qs.length)) :
    Calls Try.prog 73 #[.pointer (some ⟨x, 0, none⟩), .slice A n c] w (RefPutten w x M qs m zs) := by
  obtain ⟨A0, c0, hg, ho⟩ := h.row
  have hqM := h.room
  have hM := h.most
  have hl := hr.1
  have hmt : (zs.take m).length = m := by rw [List.length_take]; omega
  obtain ⟨K, hK⟩ : ∃ K, qs.length + m = K := ⟨_, rfl⟩
  have HE := Lib.hid (fun A2 c2 w2 => refputten_end w x base M qs h m K zs hmt (by omega) hK A0 A2 c0 c2 w2 hg)
  have h0 := hg.cell 0
  have h1 := hg.cell 1
  simp only [List.getElem?_cons_succ, List.getElem?_cons_zero] at h0 h1
  have hqc := own_capI ho
  have hx : x < w.heap.size := hg.lt
  have HG := Lib.hid hg
  have HRQ := Lib.hid (own_row ho)
  have hrm : RowV w w.heap.size A m ((zs.take m).map (Value.int .u8)) := by
    have h2 := hr.v
    have e : n = m + (n - m) := by omega
    rw [e, ← List.take_append_drop m zs, List.map_append] at h2
    exact h2.front (by rw [List.length_map]; exact hmt)
  have HRM := Lib.hid hrm
  obtain ⟨X, hX⟩ : ∃ X, X = (zs.take m).map (Value.int .u8) := ⟨_, rfl⟩
  obtain ⟨Y, hY⟩ : ∃ Y, Y = qs.map (Value.int .u8) := ⟨_, rfl⟩
  have HX1 : Hid (∀ u ∈ X, u.oneCell' = true) := by rw [hX]; exact one_cells _ _
  have HY1 : Hid (∀ u ∈ Y, u.oneCell' = true) := by rw [hY]; exact one_cells _ _
  rw [← hX] at HRM HE
  rw [← hY] at HRQ HE
  obtain ⟨q, hq⟩ : ∃ q, qs.length = q := ⟨_, rfl⟩
  rw [hq] at h1 hqc hqM HG HRQ hm hK
  obtain ⟨R, hR⟩ : ∃ R, q + R = M := ⟨M - q, by omega⟩
  have hw : IntKind.i64.wrap ((M : Int) - (q : Int)) = (R : Int) := by rw [IntWalk.i64_in _ (by omega)]; omega
  have e2 : (if R < n then (R : Int) else (n : Int)) = (m : Int) := by
    by_cases hlt : R < n
    · rw [if_pos hlt]; omega
    · rw [if_neg hlt]; omega
  have hmc : (m : Int) ≤ (c : Int) := by omega
  have hmn : m ≤ n := by omega
  have hKK := Lib.hid hK
  have KS : Hid (∀ W, Below w.heap.size w W → W.cell? ⟨x, 0, none⟩ = some (.int .i64 (M : Int)) ∧ W.cell? ⟨x, 1, none⟩ = some (.slice A0 q c0)) := fun W hW => ⟨(hW.cell (p := ⟨x, 0, none⟩) hx).trans h0, (hW.cell (p := ⟨x, 1, none⟩) hx).trans h1⟩
  clear h hg ho hr hl hmt hrm hX hY hq hm hR hK
  go_enter Try.func73, Try.ntmps73
  go_wp2
  go_region_held3 (fun W => W.cell? ⟨x, 0, none⟩ = some (.int .i64 (M : Int)) ∧ W.cell? ⟨x, 1, none⟩ = some (.slice A0 q c0)) (first | exact KS.out _ (Below.refl _ _).drew) (fail)
  all_goals go_wp2
  all_goals
    go_region_law (first
      | (refine step_append_to (.const (.slice none 0 0)) (.tmp 23) 22 w.heap.size 5 (.int .u8 0) 1 Try.underlying22 info5 rfl (.slice none 0 0) 0 [] q Y q Y (by omega) rfl HY1.out (by omega) (by omega) ⟨rfl, rfl, rfl⟩ (own_none _ _ _) ⟨A0, c0, by first | rfl | (simp [eval_put_tmp, size_put]; done) | (simp [eval_put_tmp, size_put]; simp [Act.eval]; done) | (simp [Act.eval]; done), HRQ.out⟩ (Nat.le_refl _) ?_
         intro A5 c5 w5 hown5 hg5
         have HO5 := Lib.hid hown5
         have HB5 := Lib.hid (below_append (Below.refl w.heap.size w).drew.drew (own_none _ _ 5) hg5 (Nat.le_refl _))
         have HM5 := Lib.hid ((HRM.out.below HB5.out).more HB5.out.size)
         have c51 := (HB5.out.cell (p := ⟨x, 1, none⟩) hx).trans h1
         have f51 := (HB5.out.frozen (p := ⟨x, 1, none⟩) hx).trans (HG.out.frozen 1)
         clear hown5 hg5)
      | (refine step_append_to (.tmp 24) (.tmp 27) 22 w.heap.size 5 (.int .u8 0) 1 Try.underlying22 info5 rfl (.slice A5 q c5) q Y m X K (Y ++ X) hKK.out rfl HX1.out (by omega) (by omega) ⟨rfl, rfl, by first | rfl | (simp [eval_put_tmp, size_put]; done) | (simp [eval_put_tmp, size_put]; simp [Act.eval]; done) | (simp [Act.eval]; done)⟩ HO5.out ⟨A, c, by first | rfl | (simp [eval_put_tmp, size_put]; done) | (simp [eval_put_tmp, size_put]; simp [Act.eval]; done) | (simp [Act.eval]; done), HM5.out⟩ HB5.out.size ?_
         intro A6 c6 w6 hown6 hg6
         have HO6 := Lib.hid hown6
         have HB6 := Lib.hid (below_append HB5.out HO5.out hg6 HB5.out.size)
         have c61 := (HB6.out.cell (p := ⟨x, 1, none⟩) hx).trans h1
         have f61 := (HB6.out.frozen (p := ⟨x, 1, none⟩) hx).trans (HG.out.frozen 1)
         clear hown6 hg6))
    all_goals
      go_wp2
      go_ret
      exact HE.out A6 c6 w6 HO6.out HB6.out

end

def PlayInv (w : World) (g p x M : Nat) (wr : World) : Prop := ∃ f qs base, RingAt wr g p M f qs ∧ RefAt wr x base M qs ∧ Below w.heap.size w wr

theorem PlayInv.mk {w w9 wr : World} {g p x M f base : Nat} {qs : List Int} (h : RingAt w9 g p M f qs) (k : RefAt w9 x base M qs) (hb : Below w.heap.size w w9) (ho : Below w9.heap.size w9 wr) : PlayInv w g p x M wr :=
  ⟨f, qs, base, h.below ho, k.below ho, hb.trans (ho.mono hb.size)⟩

/-- Block b has so many cells, and it alone has turned since w0. -/
def Marked (w0 : World) (b cap : Nat) (w : World) : Prop := ∃ vs, vs.length = cap ∧ WholeV w b 5 vs ∧ Off (fun k => k = b) w0 w
theorem Marked.start {w : World} {b cap : Nat} {zs : List Int} (hl : zs.length = cap) (h : Whole .u8 w b 5 zs) : Marked w b cap w := ⟨zs.map (Value.int .u8), by rw [List.length_map]; exact hl, h, Off.refl _ _⟩
theorem Marked.set {w0 w : World} {b cap : Nat} (h : Marked w0 b cap w) (j : Nat) : Marked w0 b cap (w.setCell ⟨b, j, none⟩ (.int .u8 238)) := by
  obtain ⟨vs, hl, hw, ho⟩ := h
  exact ⟨vs.set j (.int .u8 238), by rw [List.length_set]; exact hl, hw.set j _, ho.setCell (.inl rfl) _⟩

/-- A row of a call's own lies in no elder block. -/
theorem own_lo {w : World} {base n c : Nat} {A : Option Addr} {zs : List Int} (h : w.ownsRow base 5 1 (.slice A n c) n (zs.map (Value.int .u8))) : RowOff w (fun k => k < base) A n zs := by
  have hl : zs.length = n := by have := h.1; rw [List.length_map] at this; omega
  refine ⟨hl, fun h0 => ?_⟩
  obtain ⟨b, cap, he, hb, hr⟩ := row_of_own h h0
  injection he with he
  subst he
  have hr2 := RowV.ints (k := .u8) hr
  obtain ⟨b', off, e, hlt2, hc⟩ := hr2.2 h0
  injection e with e
  injection e with e1 e2
  subst e1 e2
  exact ⟨b, 0, rfl, hlt2, by omega, hc⟩
theorem RowOff.less {S T : Nat → Prop} {w : World} {A : Option Addr} {n : Nat} {zs : List Int} (h : RowOff w S A n zs) (hT : ∀ k, T k → S k) : RowOff w T A n zs :=
  ⟨h.1, fun h0 => by
    obtain ⟨b, off, e, hb, hs, hc⟩ := h.2 h0
    exact ⟨b, off, e, hb, fun ht => hs (hT b ht), hc⟩⟩

end Go.Proofs.Ythmendcdfhlkkaa
