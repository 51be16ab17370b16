/- Contracts of head.Put and of the document's PutHead. -/
import Derived.Test.YtoljpdamalcjeaaHeadGet
namespace Go.Proofs.Ytoljpdamalcjeaa
open Go.ChangeShapes Go.WideShapes Go.ChangeAt Go.RowKit
set_option linter.unusedVariables false

/-- The seven bytes of a header. -/
def headOf (t l u : Int) : List Int := [t / 256, t % 256, 0, 0, l / 256, l % 256, u]
/-- May it be one? -/
def hFits (t l u : Int) : Prop := (0 ≤ t ∧ t ≤ 65535) ∧ (2 ≤ l ∧ l ≤ 254) ∧ (0 ≤ u ∧ u ≤ 255)
instance (t l u : Int) : Decidable (hFits t l u) := by unfold hFits; infer_instance

theorem own_whole {w : World} {g B : Nat} {t : TypeId} {zs : List Int} {n : Nat} (h : Whole .u8 w g t zs) (hb : B ≤ g) (hl : zs.length = n) (hm : n ≤ 100000) : w.ownsRow B t 1 (.slice (some ⟨g, 0, none⟩) n n) n (zs.map (Value.int .u8)) := by
  refine ⟨by simp [hl], .inr ⟨g, n, _, rfl, hb, h, Nat.le_refl _, by unfold maxLen; omega, by simp [hl], ?_⟩⟩
  exact List.take_of_length_le (by simp [hl])

theorem wputI (A : Option Addr) (n c : Nat) (zs : List Int) (v : Int) (w : World) (m : Nat) (ys : List Int) (hm : n + 2 = m) (hy : zs ++ [v / 256, v % 256] = ys) (hr : Row .u8 w w.heap.size A n zs) (hv0 : 0 ≤ v) (hv1 : v ≤ 65535) (hn : n ≤ 100000) :
    Calls Try.prog 99 #[.slice A n c, .int .u16 v] w fun e w' => e = .returned (.slice (some ⟨w.heap.size, 0, none⟩) m m) ∧ Whole .u8 w' w.heap.size 5 ys ∧ Row .u8 w' w'.heap.size (some ⟨w.heap.size, 0, none⟩) m ys ∧ Below w.heap.size w w' ∧ w.heap.size < w'.heap.size := by
  subst hm hy
  refine (wput_any A n c zs v w hr hv0 hv1 hn).mono fun e w' ⟨he, hw, hb⟩ => ⟨he, hw, ?_, hb, hw.lt⟩
  have := hw.row
  rw [List.length_append, hr.1] at this
  exact this

/-- The box of a header. -/
theorem box_cells (t l u : Int) (T : TypeId) (w W : World) (hb : Below (w.heap.size + 1) (w.alloc (.cells #[.int .i64 t, .int .i64 l, .int .i64 u] T)) W) :
    W.cell? ⟨w.heap.size, 0, none⟩ = some (.int .i64 t) ∧ W.cell? ⟨w.heap.size, 1, none⟩ = some (.int .i64 l) ∧ W.cell? ⟨w.heap.size, 2, none⟩ = some (.int .i64 u) ∧ Below (w.heap.size + 1) (w.alloc (.cells #[.int .i64 t, .int .i64 l, .int .i64 u] T)) W := by
  have h := heap_alloc_new w (.cells #[.int .i64 t, .int .i64 l, .int .i64 u] T)
  refine ⟨?_, ?_, ?_, hb⟩ <;> (rw [hb.cell (by simp), cell_of_row _ _ _ _ _ _ h]; rfl)

set_option maxHeartbeats 1000000 in
theorem hput_yes (t l u : Int) (w : World) (h : hFits t l u) :
    Calls Try.prog 46 #[.agg #[.int .i64 t, .int .i64 l, .int .i64 u]] w fun e w' => ∃ g cap, e = .returned (.tuple #[.slice (some ⟨g, 0, none⟩) 7 cap, .int .i64 0]) ∧ w'.ownsRow w.heap.size 5 1 (.slice (some ⟨g, 0, none⟩) 7 cap) 7 ((headOf t l u).map (Value.int .u8)) ∧ Below w.heap.size w w' := by
  obtain ⟨⟨t0, t1⟩, ⟨l0, l1⟩, u0, u1⟩ := h
  have e1 : t % 65536 = t := by omega
  have e2 : l % 65536 = l := by omega
  have e3 : u % 256 = u := by omega
  have HN : Hid (∀ W, Calls Try.prog 97 #[.agg #[.int .i64 t, .int .i64 l, .int .i64 u]] W fun e w' => e = .returned (.agg #[.int .i64 t, .int .i64 l, .int .i64 u]) ∧ Below W.heap.size W w') := by
    intro W
    have := narrow_any t l u W
    rwa [e1, e2, e3] at this
  clear e1 e2
  have w1 : IntKind.u16.wrap t = t := IntWalk.u16_in _ (by omega)
  have w2 : IntKind.u16.wrap l = l := IntWalk.u16_in _ (by omega)
  have l2 : l ≤ 65535 := by omega
  have l3 : 0 ≤ l := by omega
  go_enter Try.func46, Try.ntmps46
  go_wp2
  obtain ⟨w0, hw0⟩ : ∃ w0, w.alloc (.cells #[.int .i64 t, .int .i64 l, .int .i64 u] 83) = w0 := ⟨_, rfl⟩
  have KS : Hid (∀ W, Below (w.heap.size + 1) w0 W → W.cell? ⟨w.heap.size, 0, none⟩ = some (.int .i64 t) ∧ W.cell? ⟨w.heap.size, 1, none⟩ = some (.int .i64 l) ∧ W.cell? ⟨w.heap.size, 2, none⟩ = some (.int .i64 u) ∧ Below (w.heap.size + 1) w0 W) := by
    intro W hb
    rw [← hw0] at hb ⊢
    exact box_cells t l u _ w W hb
  have hz0 : w0.heap.size = w.heap.size + 1 := by rw [← hw0]; simp
  have HB0 : Hid (Below w.heap.size w w0) := by rw [← hw0]; exact (Below.refl _ _).alloc (Nat.le_refl _) _
  have HZ0 := Lib.hid hz0
  rw [hw0]
  clear hz0 hw0
  go_region_held (fun W => W.cell? ⟨w.heap.size, 0, none⟩ = some (.int .i64 t) ∧ W.cell? ⟨w.heap.size, 1, none⟩ = some (.int .i64 l) ∧ W.cell? ⟨w.heap.size, 2, none⟩ = some (.int .i64 u) ∧ Below (w.heap.size + 1) w0 W)
    (first | exact KS.out _ (Below.refl _ _).drew | exact KS.out _ hb4)
    (first
      | (go_at_call 97
         refine (HN.out _).mono ?_
         rintro e w4 ⟨rfl, hb4⟩
         replace hb4 : Below (w.heap.size + 1) w0 w4 := by
           have := below_from (d := 1) hb4
           rwa [show (w0.drew).heap.size = w.heap.size + 1 from HZ0.out] at this)
      | (go_at_call 98; refine (allowed_yes l _ l0 l1).mono ?_; rintro e w' ⟨rfl, rfl⟩))
  obtain ⟨hc0, hc1, hc2, _⟩ := KS.out _ hb4
  have hz4 : w.heap.size < w4.heap.size := by have := hb4.size; have := HZ0.out; omega
  have HB4 : Hid (Below w.heap.size w w4) := HB0.out.trans (hb4.mono (by omega))
  have HK4 := Lib.hid hb4
  clear hb4
  go_wp2_with (first
    | (go_at_call 99
       (with_reducible refine (wputI none 0 0 [] t _ 2 [t / 256, t % 256] rfl rfl (Row.nil _ _ _ _) t0 t1 (by omega)).mono ?_)
       rintro e w5 ⟨rfl, hw, hr, hb, hz5⟩
       have HK5 := Lib.hid (HK4.out.trans (hb.mono (show w.heap.size + 1 ≤ w4.heap.size by omega)))
       have HB5 := Lib.hid (HB4.out.trans (hb.mono (by omega)))
       have HR5 := Lib.hid hr
       clear hw hr hb hc0 hc1 hc2
       obtain ⟨hc0, hc1, hc2, _⟩ := KS.out _ HK5.out)
    | (go_at_call 99
       (with_reducible refine (wputI _ 2 2 _ 0 _ 4 [t / 256, t % 256, 0, 0] rfl rfl HR5.out (by omega) (by omega) (by omega)).mono ?_)
       rintro e w6 ⟨rfl, hw, hr, hb, hz6⟩
       have HK6 := Lib.hid (HK5.out.trans (hb.mono (show w.heap.size + 1 ≤ w5.heap.size by omega)))
       have HB6 := Lib.hid (HB5.out.trans (hb.mono (by omega)))
       have HR6 := Lib.hid hr
       clear hw hr hb hc0 hc1 hc2
       obtain ⟨hc0, hc1, hc2, _⟩ := KS.out _ HK6.out)
    | (go_at_call 99
       (with_reducible refine (wputI _ 4 4 _ l _ 6 [t / 256, t % 256, 0, 0, l / 256, l % 256] rfl rfl HR6.out l3 l2 (by omega)).mono ?_)
       rintro e w7 ⟨rfl, hw, hr, hb, hz7⟩
       have HK7 := Lib.hid (HK6.out.trans (hb.mono (show w.heap.size + 1 ≤ w6.heap.size by omega)))
       have HB7 := Lib.hid (HB6.out.trans (hb.mono (by omega)))
       have HO7 := Lib.hid ((own_whole (B := w.heap.size) (n := 6) hw (by omega) rfl (by omega)).alloc (o := .cells #[.int .u8 u] 5))
       have hw1 : Whole .u8 (w7.alloc (.cells #[.int .u8 u] 5)) w7.heap.size 5 [u] := heap_alloc_new w7 _
       have HW := Lib.hid hw1.row
       clear hw hr hb hc0 hc1 hc2 hw1
       obtain ⟨hc0, hc1, hc2, _⟩ := KS.out _ HK7.out)
    | (at_builtin
       refine wpList_append_row _ (o := ⟨some 31, _, _, _, _, _⟩) rfl (.tmp 26) (.tmp 30) 22 rfl w.heap.size 5 (.int .u8 0) 1 Try.underlying22 info5 rfl (.slice (some ⟨w6.heap.size, 0, none⟩) 6 6) 6 _ rfl HO7.out _ (some ⟨w7.heap.size, 0, none⟩) 1 1 _ rfl HW.out.v (one_cells _ _) (by omega) (by omega) (by simp; omega) ?_
       intro v2 w8 hown2 hg2 hat2))
  go_ret2
  have hb8 : Below w.heap.size w w8 := (HB7.out.alloc HB7.out.size _).grown hg2 (by have := HB7.out.size; simp; omega) (own_ge HO7.out)
  obtain ⟨g, cap, rfl, _, _⟩ := row_of_own hown2 (by omega)
  exact ⟨g, cap, rfl, hown2, hb8⟩

set_option maxHeartbeats 1000000 in
theorem hput_long (t l u : Int) (w : World) (hl : l < 2 ∨ 254 < l) (e1 : t % 65536 = t) (e2 : l % 65536 = l) (e3 : u % 256 = u) :
    Calls Try.prog 46 #[.agg #[.int .i64 t, .int .i64 l, .int .i64 u]] w fun e w' => e = .returned (.tuple #[.slice none 0 0, .int .i64 1]) ∧ Below w.heap.size w w' := by
  have HL := Lib.hid hl
  have HN : Hid (∀ W, Calls Try.prog 97 #[.agg #[.int .i64 t, .int .i64 l, .int .i64 u]] W fun e w' => e = .returned (.agg #[.int .i64 t, .int .i64 l, .int .i64 u]) ∧ Below W.heap.size W w') := by
    intro W
    have := narrow_any t l u W
    rwa [e1, e2, e3] at this
  clear e1 e2 e3 hl
  go_enter Try.func46, Try.ntmps46
  go_wp2
  obtain ⟨w0, hw0⟩ : ∃ w0, w.alloc (.cells #[.int .i64 t, .int .i64 l, .int .i64 u] 83) = w0 := ⟨_, rfl⟩
  have KS : Hid (∀ W, Below (w.heap.size + 1) w0 W → W.cell? ⟨w.heap.size, 0, none⟩ = some (.int .i64 t) ∧ W.cell? ⟨w.heap.size, 1, none⟩ = some (.int .i64 l) ∧ W.cell? ⟨w.heap.size, 2, none⟩ = some (.int .i64 u) ∧ Below (w.heap.size + 1) w0 W) := by
    intro W hb
    rw [← hw0] at hb ⊢
    exact box_cells t l u _ w W hb
  have hz0 : w0.heap.size = w.heap.size + 1 := by rw [← hw0]; simp
  have HB0 : Hid (Below w.heap.size w w0) := by rw [← hw0]; exact (Below.refl _ _).alloc (Nat.le_refl _) _
  have HZ0 := Lib.hid hz0
  rw [hw0]
  clear hz0 hw0
  go_region_held (fun W => W.cell? ⟨w.heap.size, 0, none⟩ = some (.int .i64 t) ∧ W.cell? ⟨w.heap.size, 1, none⟩ = some (.int .i64 l) ∧ W.cell? ⟨w.heap.size, 2, none⟩ = some (.int .i64 u) ∧ Below (w.heap.size + 1) w0 W)
    (first | exact KS.out _ (Below.refl _ _).drew | exact KS.out _ hb4)
    (first
      | (go_at_call 97
         refine (HN.out _).mono ?_
         rintro e w4 ⟨rfl, hb4⟩
         replace hb4 : Below (w.heap.size + 1) w0 w4 := by
           have := below_from (d := 1) hb4
           rwa [show (w0.drew).heap.size = w.heap.size + 1 from HZ0.out] at this)
      | (go_at_call 98; refine (allowed_no l _ HL.out).mono ?_; rintro e w' ⟨rfl, rfl⟩))
  go_wp2
  go_ret2
  exact ⟨rfl, HB0.out.trans (hb4.mono (by omega))⟩

set_option maxHeartbeats 1000000 in
theorem hput_wide_t (t l u t' l' u' : Int) (w : World) (e1 : t % 65536 = t') (e2 : l % 65536 = l') (e3 : u % 256 = u') (hd : ¬ t = t') :
    Calls Try.prog 46 #[.agg #[.int .i64 t, .int .i64 l, .int .i64 u]] w fun e w' => e = .returned (.tuple #[.slice none 0 0, .int .i64 1]) ∧ Below w.heap.size w w' := by
  have HN : Hid (∀ W, Calls Try.prog 97 #[.agg #[.int .i64 t, .int .i64 l, .int .i64 u]] W fun e w' => e = .returned (.agg #[.int .i64 t', .int .i64 l', .int .i64 u']) ∧ Below W.heap.size W w') := by
    intro W
    have := narrow_any t l u W
    rwa [e1, e2, e3] at this
  clear e1 e2 e3
  go_enter Try.func46, Try.ntmps46
  go_wp2
  obtain ⟨w0, hw0⟩ : ∃ w0, w.alloc (.cells #[.int .i64 t, .int .i64 l, .int .i64 u] 83) = w0 := ⟨_, rfl⟩
  have KS : Hid (∀ W, Below (w.heap.size + 1) w0 W → W.cell? ⟨w.heap.size, 0, none⟩ = some (.int .i64 t) ∧ W.cell? ⟨w.heap.size, 1, none⟩ = some (.int .i64 l) ∧ W.cell? ⟨w.heap.size, 2, none⟩ = some (.int .i64 u) ∧ Below (w.heap.size + 1) w0 W) := by
    intro W hb
    rw [← hw0] at hb ⊢
    exact box_cells t l u _ w W hb
  have hz0 : w0.heap.size = w.heap.size + 1 := by rw [← hw0]; simp
  have HB0 : Hid (Below w.heap.size w w0) := by rw [← hw0]; exact (Below.refl _ _).alloc (Nat.le_refl _) _
  have HZ0 := Lib.hid hz0
  rw [hw0]
  clear hz0 hw0
  obtain ⟨hc0, hc1, hc2, _⟩ := KS.out _ (Below.refl _ _)
  first | go_region_with (first
      | (go_at_call 97
         refine (HN.out _).mono ?_
         rintro e w4 ⟨rfl, hb4⟩
         replace hb4 : Below (w.heap.size + 1) w0 w4 := by
           have := below_from (d := 1) hb4
           rwa [show (w0.drew).heap.size = w.heap.size + 1 from HZ0.out] at this
         obtain ⟨hd0, hd1, hd2, _⟩ := KS.out _ hb4)) | skip
  all_goals
    go_wp2
    go_ret2
    exact ⟨rfl, HB0.out.trans (hb4.mono (by omega))⟩

set_option maxHeartbeats 1000000 in
theorem hput_wide_l (t l u l' u' : Int) (w : World) (e1 : t % 65536 = t) (e2 : l % 65536 = l') (e3 : u % 256 = u') (hd : ¬ l = l') :
    Calls Try.prog 46 #[.agg #[.int .i64 t, .int .i64 l, .int .i64 u]] w fun e w' => e = .returned (.tuple #[.slice none 0 0, .int .i64 1]) ∧ Below w.heap.size w w' := by
  have HN : Hid (∀ W, Calls Try.prog 97 #[.agg #[.int .i64 t, .int .i64 l, .int .i64 u]] W fun e w' => e = .returned (.agg #[.int .i64 t, .int .i64 l', .int .i64 u']) ∧ Below W.heap.size W w') := by
    intro W
    have := narrow_any t l u W
    rwa [e1, e2, e3] at this
  clear e1 e2 e3
  go_enter Try.func46, Try.ntmps46
  go_wp2
  obtain ⟨w0, hw0⟩ : ∃ w0, w.alloc (.cells #[.int .i64 t, .int .i64 l, .int .i64 u] 83) = w0 := ⟨_, rfl⟩
  have KS : Hid (∀ W, Below (w.heap.size + 1) w0 W → W.cell? ⟨w.heap.size, 0, none⟩ = some (.int .i64 t) ∧ W.cell? ⟨w.heap.size, 1, none⟩ = some (.int .i64 l) ∧ W.cell? ⟨w.heap.size, 2, none⟩ = some (.int .i64 u) ∧ Below (w.heap.size + 1) w0 W) := by
    intro W hb
    rw [← hw0] at hb ⊢
    exact box_cells t l u _ w W hb
  have hz0 : w0.heap.size = w.heap.size + 1 := by rw [← hw0]; simp
  have HB0 : Hid (Below w.heap.size w w0) := by rw [← hw0]; exact (Below.refl _ _).alloc (Nat.le_refl _) _
  have HZ0 := Lib.hid hz0
  rw [hw0]
  clear hz0 hw0
  obtain ⟨hc0, hc1, hc2, _⟩ := KS.out _ (Below.refl _ _)
  first | go_region_with (first
      | (go_at_call 97
         refine (HN.out _).mono ?_
         rintro e w4 ⟨rfl, hb4⟩
         replace hb4 : Below (w.heap.size + 1) w0 w4 := by
           have := below_from (d := 1) hb4
           rwa [show (w0.drew).heap.size = w.heap.size + 1 from HZ0.out] at this
         obtain ⟨hd0, hd1, hd2, _⟩ := KS.out _ hb4)) | skip
  all_goals
    go_wp2
    go_ret2
    exact ⟨rfl, HB0.out.trans (hb4.mono (by omega))⟩

set_option maxHeartbeats 1000000 in
theorem hput_wide_u (t l u u' : Int) (w : World) (e1 : t % 65536 = t) (e2 : l % 65536 = l) (e3 : u % 256 = u') (hd : ¬ u = u') :
    Calls Try.prog 46 #[.agg #[.int .i64 t, .int .i64 l, .int .i64 u]] w fun e w' => e = .returned (.tuple #[.slice none 0 0, .int .i64 1]) ∧ Below w.heap.size w w' := by
  have HN : Hid (∀ W, Calls Try.prog 97 #[.agg #[.int .i64 t, .int .i64 l, .int .i64 u]] W fun e w' => e = .returned (.agg #[.int .i64 t, .int .i64 l, .int .i64 u']) ∧ Below W.heap.size W w') := by
    intro W
    have := narrow_any t l u W
    rwa [e1, e2, e3] at this
  clear e1 e2 e3
  go_enter Try.func46, Try.ntmps46
  go_wp2
  obtain ⟨w0, hw0⟩ : ∃ w0, w.alloc (.cells #[.int .i64 t, .int .i64 l, .int .i64 u] 83) = w0 := ⟨_, rfl⟩
  have KS : Hid (∀ W, Below (w.heap.size + 1) w0 W → W.cell? ⟨w.heap.size, 0, none⟩ = some (.int .i64 t) ∧ W.cell? ⟨w.heap.size, 1, none⟩ = some (.int .i64 l) ∧ W.cell? ⟨w.heap.size, 2, none⟩ = some (.int .i64 u) ∧ Below (w.heap.size + 1) w0 W) := by
    intro W hb
    rw [← hw0] at hb ⊢
    exact box_cells t l u _ w W hb
  have hz0 : w0.heap.size = w.heap.size + 1 := by rw [← hw0]; simp
  have HB0 : Hid (Below w.heap.size w w0) := by rw [← hw0]; exact (Below.refl _ _).alloc (Nat.le_refl _) _
  have HZ0 := Lib.hid hz0
  rw [hw0]
  clear hz0 hw0
  obtain ⟨hc0, hc1, hc2, _⟩ := KS.out _ (Below.refl _ _)
  first | go_region_with (first
      | (go_at_call 97
         refine (HN.out _).mono ?_
         rintro e w4 ⟨rfl, hb4⟩
         replace hb4 : Below (w.heap.size + 1) w0 w4 := by
           have := below_from (d := 1) hb4
           rwa [show (w0.drew).heap.size = w.heap.size + 1 from HZ0.out] at this
         obtain ⟨hd0, hd1, hd2, _⟩ := KS.out _ hb4)) | skip
  all_goals
    go_wp2
    go_ret2
    exact ⟨rfl, HB0.out.trans (hb4.mono (by omega))⟩

theorem hput_no (t l u : Int) (w : World) (h : ¬ hFits t l u) :
    Calls Try.prog 46 #[.agg #[.int .i64 t, .int .i64 l, .int .i64 u]] w fun e w' => e = .returned (.tuple #[.slice none 0 0, .int .i64 1]) ∧ Below w.heap.size w w' := by
  by_cases ht : t = t % 65536
  · by_cases hl : l = l % 65536
    · by_cases hu : u = u % 256
      · unfold hFits at h
        exact hput_long t l u w (by omega) ht.symm hl.symm hu.symm
      · exact hput_wide_u t l u _ w ht.symm hl.symm rfl hu
    · exact hput_wide_l t l u _ _ w ht.symm rfl rfl hl
  · exact hput_wide_t t l u _ _ _ w rfl rfl rfl ht

end Go.Proofs.Ytoljpdamalcjeaa
