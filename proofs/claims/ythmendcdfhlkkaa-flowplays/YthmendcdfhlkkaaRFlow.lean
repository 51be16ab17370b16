/- The document's flows: Flows, Feed, Next, Ready; its Cut of any bytes. No statement is proved here. -/
import Derived.Test.YthmendcdfhlkkaaAdu4
import Derived.Test.YthmendcdfhlkkaaJFlowBad4
namespace Go.Proofs.Ythmendcdfhlkkaa
open Go.ChangeShapes Go.WideShapes Go.ChangeAt Go.RowKit
set_option linter.unusedVariables false
set_option linter.unusedSimpArgs false

section
variable (A : Option Addr) (n c : Nat) (zs : List Int) (w : World)

theorem rcut_any (hr : Row .u8 w w.heap.size A n zs) (hx : Bytes8 zs) (hn : n ≤ 100000) (hc : n ≤ c) : Calls Try.prog 77 #[.slice A n c] w (CutGot zs w) := by
  obtain rfl : zs.length = n := hr.1
  rcases ce_cases zs with ⟨h1, h2⟩ | ⟨h1, h2, h3⟩ | ⟨h1, h2, h3, h4, h5, h6, h7⟩
  · exact (rcut_err A _ c zs w _ hr hx hn rfl h1).mono fun e w' h => cutgot_err h2 h1 h
  · exact (rcut_more A _ c zs w hr hx hn h1 h2).mono fun e w' h => cutgot_err h3 (by decide) h
  · refine (rcut_ok A _ c zs w (cM zs) hr hx hn hc h1 h3 h4).mono ?_
    rintro e w' ⟨B, d, rfl, hw, hb⟩
    obtain ⟨t1, t2, _⟩ := c_ok h2
    unfold CutGot GotE
    rw [t1, t2, h7, h2]
    exact ⟨_, _, rfl, hw, hb⟩

end

/-- Block y is the document's flow, its queue in block x; qs wait; d: is it dead? -/
structure DAt (w : World) (y x base M : Nat) (qs : List Int) (d : Bool) : Prop where
  head : WholeV w y 75 [.pointer (some ⟨x, 0, none⟩), .bool d]
  ref : RefAt w x base M qs
  ne : y ≠ x
  lt : y < base
  dead : d = true → qs = []
  bytes : Bytes8 qs
  gone : d = true → WholeV w x 72 [.int .i64 (M : Int), .slice none 0 0]
theorem DAt.off {S : Nat → Prop} {w w' : World} {y x base M : Nat} {qs : List Int} {d : Bool} (h : DAt w y x base M qs d) (ho : Off S w w') (hy : ¬ S y) (hx : ¬ S x) (hb : ∀ k, base ≤ k → k < w.heap.size → ¬ S k) : DAt w' y x base M qs d :=
  ⟨ho.whole h.head hy, h.ref.off ho hx hb, h.ne, h.lt, h.dead, h.bytes, fun e => ho.whole (h.gone e) hx⟩
theorem DAt.below {w w' : World} {y x base M : Nat} {qs : List Int} {d : Bool} (h : DAt w y x base M qs d) (hb : Below w.heap.size w w') : DAt w' y x base M qs d := h.off (S := fun _ => False) (Off.of_below hb) id id (fun _ _ _ => id)

/-- Nothing waits in a dead one: where its row would lie is free. -/
theorem DAt.keep {S : Nat → Prop} {w w' : World} {y x base M : Nat} {qs : List Int} {d : Bool} (h : DAt w y x base M qs d) (ho : Off S w w') (hy : ¬ S y) (hx : ¬ S x) (hb : d = false → ∀ k, base ≤ k → k < w.heap.size → ¬ S k) : ∃ base', DAt w' y x base' M qs d ∧ (d = false → base' = base) := by
  cases d with
  | false => exact ⟨base, h.off ho hy hx (hb rfl), fun _ => rfl⟩
  | true =>
    have hg := ho.whole (h.gone rfl) hx
    have hh := ho.whole h.head hy
    obtain rfl := h.dead rfl
    exact ⟨w'.heap.size, ⟨hh, ⟨hg.lt, Nat.le_refl _, by simp, h.ref.most, none, 0, hg, own_none _ _ _⟩, h.ne, hh.lt, fun _ => rfl, h.bytes, fun _ => hg⟩, fun e => by cases e⟩

/-- A new queue of the document's was returned. -/
def RefNew2 (M : Nat) (w : World) (e : Ending) (w' : World) : Prop := ∃ x, e = .returned (.pointer (some ⟨x, 0, none⟩)) ∧ w.heap.size ≤ x ∧ WholeV w' x 72 [.int .i64 (M : Int), .slice none 0 0] ∧ Below w.heap.size w w'
theorem refnew2_any (most : Int) (M : Nat) (w : World) (hM : (260 ≤ most ∧ most ≤ 65536 ∧ most = (M : Int)) ∨ (65536 < most ∧ M = 65536)) (h1 : most ≤ 9223372036854775807) :
    Calls Try.prog 70 #[.int .i64 most] w (RefNew2 M w) := by
  have HB : Hid (∀ o, Below w.heap.size w (w.alloc o)) := fun o => (Below.refl _ _).alloc (Nat.le_refl _) o
  have HW : Hid (∀ (T : TypeId) (a b : Value), WholeV (w.alloc (.cells #[a, b] T)) w.heap.size T [a, b]) := fun T a b => heap_alloc_new w _
  rcases hM with ⟨h2, h3, h4⟩ | ⟨h2, h3⟩
  · have hn : ¬ most < 0 := by omega
    have hx : ¬ 65536 < most := by omega
    subst h4
    clear h2 h3 h1
    go_enter Try.func70, Try.ntmps70
    go_wp2
    go_ret
    exact ⟨_, rfl, Nat.le_refl _, HW.out _ _ _, HB.out _⟩
  · have hn : ¬ most < 0 := by omega
    subst h3
    clear h1
    go_enter Try.func70, Try.ntmps70
    go_wp2
    go_ret
    exact ⟨_, rfl, Nat.le_refl _, HW.out _ _ _, HB.out _⟩

/-- A new flow of the document's was returned. -/
def NewD (M : Nat) (w : World) (e : Ending) (w' : World) : Prop := ∃ y x, e = .returned (.pointer (some ⟨y, 0, none⟩)) ∧ DAt w' y x (y + 1) M [] false ∧ w.heap.size ≤ y ∧ w.heap.size ≤ x ∧ Below w.heap.size w w'
theorem newd_made (M : Nat) (hM : M ≤ 65536) (w w2 : World) (x : Nat) (hx : w.heap.size ≤ x) (hw : WholeV w2 x 72 [.int .i64 (M : Int), .slice none 0 0]) (hb : Below w.heap.size w w2) :
    NewD M w (.returned (.pointer (some ⟨w2.heap.size, 0, none⟩))) (w2.alloc (.cells #[.pointer (some ⟨x, 0, none⟩), .bool false] 75)) := by
  have hl := hw.lt
  have hz : (w2.alloc (.cells #[.pointer (some ⟨x, 0, none⟩), .bool false] 75)).heap.size = w2.heap.size + 1 := by simp
  exact ⟨_, x, rfl, ⟨heap_alloc_new w2 _, ⟨by omega, by omega, by simp, hM, none, 0, hw.below ((Below.refl _ _).alloc (Nat.le_refl _) _) hl, own_none _ _ _⟩, by omega, by omega, fun _ => rfl, fun x hx => (by simp at hx), fun e => (by cases e)⟩, hb.size, hx, hb.alloc hb.size _⟩
theorem dflows_any (most : Int) (M : Nat) (w : World) (h1 : most ≤ 9223372036854775807) (hM : (most < 260 ∧ M = 260) ∨ (65536 < most ∧ M = 65536) ∨ (260 ≤ most ∧ most ≤ 65536 ∧ most = (M : Int))) :
    Calls Try.prog 26 #[.int .i64 most] w (NewD M w) := by
  have HN := Lib.hid (newd_made M (by omega) w)
  rcases hM with ⟨h2, h3⟩ | h2 | h2
  · subst h3
    have C1 := Lib.hid (refnew2_any 260 260 w (.inl ⟨by omega, by omega, rfl⟩) (by omega))
    clear h1
    go_enter Try.func26, Try.ntmps26
    go_wp2_with (
      (go_at_call 70
       (with_reducible refine C1.out.mono ?_)
       rintro e w2 ⟨x, rfl, hx, hw, hb⟩
       have H9 := Lib.hid (HN.out w2 x hx hw hb)
       clear hx hw hb))
    go_ret
    exact H9.out
  · have C1 := Lib.hid (refnew2_any most M w (.inr h2) h1)
    have hn : ¬ most < 260 := by omega
    clear h1 h2
    go_enter Try.func26, Try.ntmps26
    go_wp2_with (
      (go_at_call 70
       (with_reducible refine C1.out.mono ?_)
       rintro e w2 ⟨x, rfl, hx, hw, hb⟩
       have H9 := Lib.hid (HN.out w2 x hx hw hb)
       clear hx hw hb))
    go_ret
    exact H9.out
  · have C1 := Lib.hid (refnew2_any most M w (.inl h2) h1)
    have hn : ¬ most < 260 := by omega
    clear h1 h2
    go_enter Try.func26, Try.ntmps26
    go_wp2_with (
      (go_at_call 70
       (with_reducible refine C1.out.mono ?_)
       rintro e w2 ⟨x, rfl, hx, hw, hb⟩
       have H9 := Lib.hid (HN.out w2 x hx hw hb)
       clear hx hw hb))
    go_ret
    exact H9.out

/-- The two blocks of the document's flow. -/
def YX (y x : Nat) : Nat → Prop := fun k => k = y ∨ k = x

section
variable (w : World) (y x base M : Nat) (qs : List Int) (d : Bool)

/-- What the document's Feed leaves. -/
def DFed (m : Nat) (zs : List Int) (e : Ending) (w' : World) : Prop := e = .returned (.int .i64 (m : Int)) ∧ (∃ base', DAt w' y x base' M (qs ++ zs.take m) d) ∧ Off (YX y x) w w'

set_option maxHeartbeats 1000000 in
theorem dfeed_any (A : Option Addr) (n c : Nat) (zs : List Int) (m : Nat) (h : DAt w y x base M qs d) (hr : Row .u8 w w.heap.size A n zs) (hx : Bytes8 zs) (hn : n ≤ 100000) (hc : n ≤ c) (hm : m = if d = true then 0 else min n (M - qs.length)) :
    Calls Try.prog 30 #[.pointer (some ⟨y, 0, none⟩), .slice A n c] w (DFed w y x M qs d m zs) := by
  have c0 := h.head.cell 0
  have c1 := h.head.cell 1
  simp only [List.getElem?_cons_succ, List.getElem?_cons_zero] at c0 c1
  cases d with
  | true =>
    obtain rfl : m = 0 := by rw [hm]; rfl
    have H9 : Hid (DFed w y x M qs true 0 zs (.returned (.int .i64 0)) w) := ⟨rfl, ⟨base, by rw [List.take_zero, List.append_nil]; exact h⟩, Off.refl _ _⟩
    clear h hr hx hc hm
    go_enter Try.func30, Try.ntmps30
    go_wp2
    go_ret
    exact H9.out
  | false =>
    have C1 := Lib.hid (refput9 w x base M qs A n c zs m h.ref hr hn hc (by rw [hm]; rfl))
    have HE : Hid (∀ w', RefAt w' x w.heap.size M (qs ++ zs.take m) → Off (fun k => k = x) w w' → DFed w y x M qs false m zs (.returned (.int .i64 (m : Int))) w') := by
      intro w' hr ho
      refine ⟨rfl, ⟨w.heap.size, ho.whole h.head h.ne, hr, h.ne, Nat.lt_of_lt_of_le h.lt h.ref.le, fun e => (by cases e), fun v hv => ?_, fun e => (by cases e)⟩, ho.mono (fun i hi => .inr hi)⟩
      rcases List.mem_append.1 hv with hv | hv
      · exact h.bytes v hv
      · exact hx v (List.mem_of_mem_take hv)
    clear h hr hx hc hm
    go_enter Try.func30, Try.ntmps30
    go_wp2_with (
      (go_at_call 73
       (with_reducible refine C1.out.mono ?_)
       rintro e w1 ⟨rfl, hr, ho⟩
       have H9 := Lib.hid (HE.out w1 hr ho)
       clear hr ho))
    go_ret
    exact H9.out

set_option maxRecDepth 100000 in
set_option maxHeartbeats 1000000 in
theorem dready_any (h : DAt w y x base M qs d) : Calls Try.prog 36 #[.pointer (some ⟨y, 0, none⟩)] w fun e w' => e = .returned (.bool (gE d qs != 3)) ∧ Below w.heap.size w w' := by
  have c0 := h.head.cell 0
  have c1 := h.head.cell 1
  simp only [List.getElem?_cons_succ, List.getElem?_cons_zero] at c0 c1
  cases d with
  | true =>
    clear h
    go_enter Try.func36, Try.ntmps36
    go_wp2
    go_ret
    exact ⟨rfl, Below.refl _ _⟩
  | false =>
    obtain ⟨A, c, hg, ho⟩ := h.ref.row
    have c2 := hg.cell 1
    simp only [List.getElem?_cons_succ, List.getElem?_cons_zero] at c2
    have hm := h.ref.most
    have hq := h.ref.room
    have C1 := Lib.hid (rcut_any A qs.length c qs w (own_row ho).ints h.bytes (by omega) (own_capI ho))
    have hE : gE false qs = cE qs := by unfold gE; rw [if_neg (by decide)]
    rw [hE]
    unfold CutGot at C1
    obtain ⟨G, hG⟩ : ∃ G, cE qs = G := ⟨_, rfl⟩
    rw [hG] at C1 ⊢
    clear h hg ho hE hG
    go_enter Try.func36, Try.ntmps36
    go_wp2_with (
      (go_at_call 77
       (with_reducible refine C1.out.mono ?_)
       rintro e w2 ⟨B, k, rfl, _, hb⟩
       have HB2 := Lib.hid hb
       clear hb))
    go_ret
    exact ⟨rfl, HB2.out.alloc HB2.out.size _⟩

/-- What the document's Next leaves. -/
def DNextGot (e : Ending) (w' : World) : Prop := ∃ B k, e = .returned (.tuple #[.agg #[.int .i64 (cT qs), .int .i64 (cU qs), .slice B (cM qs) k], .int .i64 (gE d qs)]) ∧
  w'.ownsRow w.heap.size 5 1 (.slice B (cM qs) k) (cM qs) ((cP qs).map (Value.int .u8)) ∧ (∃ base', DAt w' y x base' M (nQ d qs) (nD d qs)) ∧ Off (YX y x) w w'

/-- What stands ahead of the last region of it. -/
def DMid (B : Option Addr) (k s2 : Nat) (w4 : World) : Prop :=
  WholeV w4 s2 67 [.int .i64 (cT qs), .int .i64 (cU qs), .slice B (cM qs) k] ∧ WholeV w4 w.heap.size 67 [.int .i64 0, .int .i64 0, .slice none 0 0] ∧
  w4.ownsRow (w.heap.size + 1) 5 1 (.slice B (cM qs) k) (cM qs) ((cP qs).map (Value.int .u8)) ∧ (∀ w9, Off (fun k => k = w.heap.size) w4 w9 → ∃ base', DAt w9 y x base' M (nQ d qs) (nD d qs)) ∧ Off (YX y x) w w4

theorem dmid_end (B : Option Addr) (k s2 : Nat) (w4 : World) (hm : DMid w y x M qs d B k s2 w4) (E : Int) (hE : gE d qs = E) :
    DNextGot w y x M qs d (.returned (.tuple #[.agg #[.int .i64 (cT qs), .int .i64 (cU qs), .slice B (cM qs) k], .int .i64 E])) (((w4.setCell ⟨w.heap.size, 0, none⟩ (.int .i64 (cT qs))).setCell ⟨w.heap.size, 1, none⟩ (.int .i64 (cU qs))).setCell ⟨w.heap.size, 2, none⟩ (.slice B (cM qs) k)) := by
  subst hE
  obtain ⟨h1, h2, h3, h4, h6⟩ := hm
  have ho := off3 w4 w.heap.size (.int .i64 (cT qs)) (.int .i64 (cU qs)) (.slice B (cM qs) k)
  refine ⟨B, k, rfl, own_mono (ho.own h3 (fun k hk _ e => by omega)) (by omega), h4 _ ho, ?_⟩
  exact (((h6.setCell (p := ⟨w.heap.size, 0, none⟩) (.inr (Nat.le_refl _)) _).setCell (p := ⟨w.heap.size, 1, none⟩) (.inr (Nat.le_refl _)) _).setCell (p := ⟨w.heap.size, 2, none⟩) (.inr (Nat.le_refl _)) _)

/-- What stands behind Cut, in a box of its own. -/
def DPre (B : Option Addr) (k s2 : Nat) (w3 : World) : Prop :=
  WholeV w3 s2 67 [.int .i64 (cT qs), .int .i64 (cU qs), .slice B (cM qs) k] ∧ WholeV w3 w.heap.size 67 [.int .i64 0, .int .i64 0, .slice none 0 0] ∧
  w3.ownsRow (w.heap.size + 1) 5 1 (.slice B (cM qs) k) (cM qs) ((cP qs).map (Value.int .u8)) ∧ Below w.heap.size w w3 ∧ w.heap.size < s2
theorem dpre_first (B : Option Addr) (k : Nat) (w2 : World) (ho : w2.ownsRow (w.alloc (.cells #[.int .i64 0, .int .i64 0, .slice none 0 0] 67)).heap.size 5 1 (.slice B (cM qs) k) (cM qs) ((cP qs).map (Value.int .u8)))
    (hb : Below (w.alloc (.cells #[.int .i64 0, .int .i64 0, .slice none 0 0] 67)).heap.size (w.alloc (.cells #[.int .i64 0, .int .i64 0, .slice none 0 0] 67)) w2) :
    DPre w qs B k w2.heap.size (w2.alloc (.cells #[.int .i64 (cT qs), .int .i64 (cU qs), .slice B (cM qs) k] 67)) := by
  have hb1 := below_alloc1 hb
  have hb0 := below_alloc0 hb1
  have hX := box3 _ _ _ _ _ _ hb1
  have hl := hX.lt
  rw [show (w.alloc (.cells #[.int .i64 0, .int .i64 0, .slice none 0 0] 67)).heap.size = w.heap.size + 1 by simp] at ho
  exact ⟨heap_alloc_new w2 _, hX.below ((Below.refl _ _).alloc (Nat.le_refl _) _) hl, ho.alloc _, hb0.alloc hb0.size _, hl⟩
theorem dalive (hE : gE d qs = 0 ∨ gE d qs = 3) : d = false := by
  cases d with
  | true => unfold gE at hE; simp at hE
  | false => rfl

theorem dpre_more (h : DAt w y x base M qs d) (hE : gE d qs = 3) (B : Option Addr) (k s2 : Nat) (w3 : World) (hp : DPre w qs B k s2 w3) : DMid w y x M qs d B k s2 w3 := by
  obtain ⟨h1, h2, h3, h4, h5⟩ := hp
  obtain rfl := dalive qs d (.inr hE)
  have hc : cE qs = 3 := by unfold gE at hE; simpa using hE
  have e2 : nQ false qs = qs := by unfold nQ; rw [if_neg (by rw [hE]; decide), (c_err (by rw [hc]; decide)).2.1]; rfl
  have e3 : nD false qs = false := by unfold nD; rw [hE]; rfl
  refine ⟨h1, h2, h3, fun w9 h9 => ⟨base, ?_⟩, Off.of_below h4⟩
  rw [e2, e3]
  exact h.below (h4.trans (h9.below h4.size (fun k hk e => by omega)))
theorem dpre_ok (h : DAt w y x base M qs d) (hE : gE d qs = 0) (B : Option Addr) (k s2 : Nat) (w3 w4 : World) (e : Ending) (hp : DPre w qs B k s2 w3) (ht : RefTaken w3 x M qs (cN qs) e w4) : DMid w y x M qs d B k s2 w4 := by
  obtain ⟨h1, h2, h3, h4, h5⟩ := hp
  obtain ⟨A, c, _, hA, hq, ho⟩ := ht
  obtain rfl := dalive qs d (.inl hE)
  have hx := h.ref.lt
  have hxl := h.ref.le
  have hyl := h.head.lt
  have hs := h2.lt
  have e2 : nQ false qs = qs.drop (cN qs) := by unfold nQ; rw [if_neg (by rw [hE]; decide)]
  have e3 : nD false qs = false := by unfold nD; rw [hE]; rfl
  refine ⟨ho.whole h1 (fun e => by omega), ho.whole h2 (fun e => by omega), ho.own h3 (fun k hk _ e => by omega), fun w9 h9 => ⟨w3.heap.size, ?_⟩, (Off.of_below h4).trans ho (fun i hi => .inl (.inr hi))⟩
  rw [e2, e3]
  have hd : DAt w4 y x w3.heap.size M (qs.drop (cN qs)) false := ⟨ho.whole (h.below h4).head h.ne, hq, h.ne, by have := h4.size; omega, fun e => (by cases e), fun v hv => h.bytes v (List.mem_of_mem_drop hv), fun e => (by cases e)⟩
  exact hd.off h9 (fun e => by omega) (fun e => by omega) (fun k hk _ e => by omega)
theorem dpre_end (h : DAt w y x base M qs d) (hE : gE d qs = 2) (B : Option Addr) (k s2 : Nat) (w3 : World) (hp : DPre w qs B k s2 w3) : DMid w y x M qs d B k s2 ((w3.setCell ⟨y, 1, none⟩ (.bool true)).setCell ⟨x, 1, none⟩ (.slice none 0 0)) := by
  obtain ⟨h1, h2, h3, h4, h5⟩ := hp
  have hx := h.ref.lt
  have hxl := h.ref.le
  have hyl := h.head.lt
  have hs := h2.lt
  have ho : Off (YX y x) w3 ((w3.setCell ⟨y, 1, none⟩ (.bool true)).setCell ⟨x, 1, none⟩ (.slice none 0 0)) := ((Off.refl (YX y x) w3).setCell (p := ⟨y, 1, none⟩) (.inl (.inl rfl)) _).setCell (p := ⟨x, 1, none⟩) (.inl (.inr rfl)) _
  have e2 : nQ d qs = [] := by unfold nQ; rw [if_pos hE]
  have e3 : nD d qs = true := by unfold nD; rw [hE]; rfl
  refine ⟨ho.whole h1 (fun e => by rcases e with e | e <;> omega), ho.whole h2 (fun e => by rcases e with e | e <;> omega), ho.own h3 (fun k hk _ e => by rcases e with e | e <;> omega), fun w9 h9 => ⟨w9.heap.size, ?_⟩, (Off.of_below h4).trans ho (fun i hi => .inl hi)⟩
  rw [e2, e3]
  obtain ⟨A, c, hg, _⟩ := (h.below h4).ref.row
  have hy1 := ((h.below h4).head.set 1 (.bool true))
  have hy2 : WholeV ((w3.setCell ⟨y, 1, none⟩ (.bool true)).setCell ⟨x, 1, none⟩ (.slice none 0 0)) y 75 [.pointer (some ⟨x, 0, none⟩), .bool true] := hy1.far h.ne 1 _
  have hx1 : WholeV (w3.setCell ⟨y, 1, none⟩ (.bool true)) x 72 [.int .i64 (M : Int), .slice A qs.length c] := hg.far (Ne.symm h.ne) 1 _
  have hx2 := hx1.set 1 (.slice none 0 0)
  have hsz := h9.size
  have hsz2 : w3.heap.size = ((w3.setCell ⟨y, 1, none⟩ (.bool true)).setCell ⟨x, 1, none⟩ (.slice none 0 0)).heap.size := by simp [World.setCell]
  exact ⟨h9.whole hy2 (fun e => by omega), ⟨by omega, Nat.le_refl _, by simp, h.ref.most, none, 0, h9.whole hx2 (fun e => by omega), own_none _ _ _⟩, h.ne, by omega, fun _ => rfl, fun v hv => (by simp at hv), fun _ => h9.whole hx2 (fun e => by omega)⟩

set_option maxRecDepth 100000 in
set_option maxHeartbeats 1000000 in
theorem dnext_more (h : DAt w y x base M qs false) (hE : gE false qs = 3) : Calls Try.prog 32 #[.pointer (some ⟨y, 0, none⟩)] w (DNextGot w y x M qs false) := by
  have hh := h.below ((Below.refl _ _).alloc (Nat.le_refl _) (.cells #[.int .i64 0, .int .i64 0, .slice none 0 0] 67))
  have c0 := hh.head.cell 0
  have c1 := hh.head.cell 1
  simp only [List.getElem?_cons_succ, List.getElem?_cons_zero] at c0 c1
  obtain ⟨A, c, hg, ho⟩ := hh.ref.row
  have c2 := hg.cell 1
  simp only [List.getElem?_cons_succ, List.getElem?_cons_zero] at c2
  have hmost := h.ref.most
  have hroom := h.ref.room
  have C1 := Lib.hid (rcut_any A qs.length c qs _ (own_row ho).ints h.bytes (by omega) (own_capI ho))
  unfold CutGot at C1
  rw [show cE qs = 3 by unfold gE at hE; simpa using hE] at C1
  have HM := Lib.hid (dpre_more w y x base M qs false h hE)
  have HE := Lib.hid (fun B k s2 w4 hm => dmid_end w y x M qs false B k s2 w4 hm 3 hE)
  have HA := Lib.hid (fun w3 (hb : Below w.heap.size w w3) => (h.below hb).head)
  have HG := Lib.hid (fun w3 (hb : Below w.heap.size w w3) => (h.below hb).ref.row)
  have HNE := Lib.hid h.ne
  clear h hh hg ho hE hmost hroom
  go_enter Try.func32, Try.ntmps32
  go_wp2_with (
    (go_at_call 77
     (with_reducible refine C1.out.mono ?_)
     rintro e w2 ⟨B, k, rfl, ho, hb⟩
     have HP := Lib.hid (dpre_first w qs B k w2 ho hb)
     have HM4 := Lib.hid (HM.out B k _ _ HP.out)
     obtain ⟨hd0, hd1, hd2, _⟩ := box3_fz HM4.out.1
     obtain ⟨hc0, hc1, hc2, hf0, hf1, hf2⟩ := box3_fz HM4.out.2.1
     have hlt := HM4.out.2.1.lt
     clear ho hb))
  have h9 := ((HM4.out.2.1.set 0 (.int .i64 (cT qs))).set 1 (.int .i64 (cU qs))).set 2 (.slice B (cM qs) k)
  have hz9 := h9.lt
  have q0 := h9.cell 0
  have q1 := h9.cell 1
  have q2 := h9.cell 2
  exact bodyPost_ret (v := .tuple #[.agg #[.int .i64 (cT qs), .int .i64 (cU qs), .slice B (cM qs) k], .int .i64 3]) (by simp [results, Try.results32, go_sem, hz9, q0, q1, q2]) rfl (HE.out B k _ _ HM4.out)

set_option maxRecDepth 100000 in
set_option maxHeartbeats 1000000 in
theorem dnext_ok (h : DAt w y x base M qs false) (hE : gE false qs = 0) : Calls Try.prog 32 #[.pointer (some ⟨y, 0, none⟩)] w (DNextGot w y x M qs false) := by
  have hh := h.below ((Below.refl _ _).alloc (Nat.le_refl _) (.cells #[.int .i64 0, .int .i64 0, .slice none 0 0] 67))
  have c0 := hh.head.cell 0
  have c1 := hh.head.cell 1
  simp only [List.getElem?_cons_succ, List.getElem?_cons_zero] at c0 c1
  obtain ⟨A, c, hg, ho⟩ := hh.ref.row
  have c2 := hg.cell 1
  simp only [List.getElem?_cons_succ, List.getElem?_cons_zero] at c2
  have hmost := h.ref.most
  have hroom := h.ref.room
  have C1 := Lib.hid (rcut_any A qs.length c qs _ (own_row ho).ints h.bytes (by omega) (own_capI ho))
  unfold CutGot at C1
  rw [show cE qs = 0 by unfold gE at hE; simpa using hE] at C1
  have HM := Lib.hid (dpre_ok w y x base M qs false h hE)
  have CT : Hid (∀ w3, Below w.heap.size w w3 → Calls Try.prog 78 #[.pointer (some ⟨x, 0, none⟩), .int .i64 (cN qs : Int)] w3 (RefTaken w3 x M qs (cN qs))) := fun w3 hb => reftake_any w3 x base M qs (cN qs : Int) (cN qs) (h.below hb).ref (.inr (.inl ⟨by omega, rfl, cN_le qs⟩))
  have HE := Lib.hid (fun B k s2 w4 hm => dmid_end w y x M qs false B k s2 w4 hm 0 hE)
  have HA := Lib.hid (fun w3 (hb : Below w.heap.size w w3) => (h.below hb).head)
  have HG := Lib.hid (fun w3 (hb : Below w.heap.size w w3) => (h.below hb).ref.row)
  have HNE := Lib.hid h.ne
  clear h hh hg ho hE hmost hroom
  go_enter Try.func32, Try.ntmps32
  go_wp2_with (first
    | (go_at_call 77
       (with_reducible refine C1.out.mono ?_)
       rintro e w2 ⟨B, k, rfl, ho, hb⟩
       have HP := Lib.hid (dpre_first w qs B k w2 ho hb)
       have hy3 := HA.out _ HP.out.2.2.2.1
       have c03 := hy3.cell 0
       simp only [List.getElem?_cons_succ, List.getElem?_cons_zero] at c03
       have CT2 := Lib.hid (CT.out _ HP.out.2.2.2.1)
       clear ho hb hy3)
    | (go_at_call 78
       (with_reducible refine CT2.out.mono ?_)
       intro e w4 ht
       have HM4 := Lib.hid (HM.out B k _ _ w4 e HP.out ht)
       obtain ⟨hd0, hd1, hd2, _⟩ := box3_fz HM4.out.1
       obtain ⟨hc0, hc1, hc2, hf0, hf1, hf2⟩ := box3_fz HM4.out.2.1
       have hlt := HM4.out.2.1.lt
       obtain ⟨A5, c5, rfl, _⟩ := ht))
  have h9 := ((HM4.out.2.1.set 0 (.int .i64 (cT qs))).set 1 (.int .i64 (cU qs))).set 2 (.slice B (cM qs) k)
  have hz9 := h9.lt
  have q0 := h9.cell 0
  have q1 := h9.cell 1
  have q2 := h9.cell 2
  exact bodyPost_ret (v := .tuple #[.agg #[.int .i64 (cT qs), .int .i64 (cU qs), .slice B (cM qs) k], .int .i64 0]) (by simp [results, Try.results32, go_sem, hz9, q0, q1, q2]) rfl (HE.out B k _ _ HM4.out)

set_option maxRecDepth 100000 in
set_option maxHeartbeats 1000000 in
theorem dnext_end (h : DAt w y x base M qs false) (hE : gE false qs = 2) : Calls Try.prog 32 #[.pointer (some ⟨y, 0, none⟩)] w (DNextGot w y x M qs false) := by
  have hh := h.below ((Below.refl _ _).alloc (Nat.le_refl _) (.cells #[.int .i64 0, .int .i64 0, .slice none 0 0] 67))
  have c0 := hh.head.cell 0
  have c1 := hh.head.cell 1
  simp only [List.getElem?_cons_succ, List.getElem?_cons_zero] at c0 c1
  obtain ⟨A, c, hg, ho⟩ := hh.ref.row
  have c2 := hg.cell 1
  simp only [List.getElem?_cons_succ, List.getElem?_cons_zero] at c2
  have hmost := h.ref.most
  have hroom := h.ref.room
  have C1 := Lib.hid (rcut_any A qs.length c qs _ (own_row ho).ints h.bytes (by omega) (own_capI ho))
  unfold CutGot at C1
  rw [show cE qs = 2 by unfold gE at hE; simpa using hE] at C1
  have HM := Lib.hid (dpre_end w y x base M qs false h hE)
  have HE := Lib.hid (fun B k s2 w4 hm => dmid_end w y x M qs false B k s2 w4 hm 2 hE)
  have HA := Lib.hid (fun w3 (hb : Below w.heap.size w w3) => (h.below hb).head)
  have HG := Lib.hid (fun w3 (hb : Below w.heap.size w w3) => (h.below hb).ref.row)
  have HNE := Lib.hid h.ne
  clear h hh hg ho hE hmost hroom
  go_enter Try.func32, Try.ntmps32
  go_wp2_with (
    (go_at_call 77
     (with_reducible refine C1.out.mono ?_)
     rintro e w2 ⟨B, k, rfl, ho, hb⟩
     have HP := Lib.hid (dpre_first w qs B k w2 ho hb)
     have hy3 := HA.out _ HP.out.2.2.2.1
     have c03 := hy3.cell 0
     have c13 := hy3.cell 1
     have f13 := hy3.frozen 1
     obtain ⟨A3, d3, hg3, _⟩ := HG.out _ HP.out.2.2.2.1
     have hyt := hy3.set 1 (.bool true)
     have c04 := hyt.cell 0
     have hx3 := hg3.far (Ne.symm HNE.out) 1 (.bool true)
     have c15 := hx3.cell 1
     have f15 := hx3.frozen 1
     simp only [List.getElem?_cons_succ, List.getElem?_cons_zero, List.set] at c03 c13 c04 c15
     have HM4 := Lib.hid (HM.out B k _ _ HP.out)
     obtain ⟨hd0, hd1, hd2, _⟩ := box3_fz HM4.out.1
     obtain ⟨hc0, hc1, hc2, hf0, hf1, hf2⟩ := box3_fz HM4.out.2.1
     have hlt := HM4.out.2.1.lt
     clear ho hb hy3 hg3 hyt hx3))
  have h9 := ((HM4.out.2.1.set 0 (.int .i64 (cT qs))).set 1 (.int .i64 (cU qs))).set 2 (.slice B (cM qs) k)
  have hz9 := h9.lt
  have q0 := h9.cell 0
  have q1 := h9.cell 1
  have q2 := h9.cell 2
  exact bodyPost_ret (v := .tuple #[.agg #[.int .i64 (cT qs), .int .i64 (cU qs), .slice B (cM qs) k], .int .i64 2]) (by simp [results, Try.results32, go_sem, hz9, q0, q1, q2]) rfl (HE.out B k _ _ HM4.out)

set_option maxRecDepth 100000 in
theorem dnext_dead (h : DAt w y x base M qs true) : Calls Try.prog 32 #[.pointer (some ⟨y, 0, none⟩)] w (DNextGot w y x M qs true) := by
  have hh := h.below ((Below.refl _ _).alloc (Nat.le_refl _) (.cells #[.int .i64 0, .int .i64 0, .slice none 0 0] 67))
  have c1 := hh.head.cell 1
  simp only [List.getElem?_cons_succ, List.getElem?_cons_zero] at c1
  obtain rfl := h.dead rfl
  have HX : Hid (WholeV (w.alloc (.cells #[.int .i64 0, .int .i64 0, .slice none 0 0] 67)) w.heap.size 67 [.int .i64 0, .int .i64 0, .slice none 0 0]) := heap_alloc_new w _
  have HB : Hid (Below w.heap.size w (w.alloc (.cells #[.int .i64 0, .int .i64 0, .slice none 0 0] 67))) := (Below.refl _ _).alloc (Nat.le_refl _) _
  have HH := Lib.hid hh
  obtain ⟨hc0, hc1, hc2, hf0, hf1, hf2⟩ := box3_fz HX.out
  have hlt := HX.out.lt
  clear h hh
  go_enter Try.func32, Try.ntmps32
  go_wp2
  exact bodyPost_ret (v := .tuple #[.agg #[.int .i64 0, .int .i64 0, .slice none 0 0], .int .i64 2]) (by simp [results, Try.results32, go_sem, hlt, hc0, hc1, hc2]) rfl
    ⟨none, 0, rfl, own_none _ _ _, ⟨base, HH.out⟩, Off.of_below HB.out⟩

theorem dnext_any (h : DAt w y x base M qs d) : Calls Try.prog 32 #[.pointer (some ⟨y, 0, none⟩)] w (DNextGot w y x M qs d) := by
  cases d with
  | true => exact dnext_dead w y x base M qs h
  | false =>
    rcases ge_some false qs with hE | hE | hE
    · exact dnext_ok w y x base M qs h hE
    · exact dnext_end w y x base M qs h hE
    · exact dnext_more w y x base M qs h hE

end

end Go.Proofs.Ythmendcdfhlkkaa
