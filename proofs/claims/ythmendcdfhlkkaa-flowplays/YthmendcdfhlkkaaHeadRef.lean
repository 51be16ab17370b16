/- Contract of the document's PutHead. -/
import Derived.Test.YthmendcdfhlkkaaHeadPut
import Derived.Test.YthmendcdfhlkkaaStep
namespace Go.Proofs.Ythmendcdfhlkkaa
open Go.ChangeShapes Go.WideShapes Go.ChangeAt Go.RowKit
set_option linter.unusedVariables false

theorem two_first (t : Int) (w : World) (t0 : 0 ≤ t) (t1 : t ≤ 65535) :
    Calls Try.prog 80 #[.slice none 0 0, .int .i64 t] w fun e w' => ∃ g cap, e = .returned (.slice (some ⟨g, 0, none⟩) 2 cap) ∧ w'.ownsRow w.heap.size 5 1 (.slice (some ⟨g, 0, none⟩) 2 cap) 2 ([t / 256, t % 256].map (Value.int .u8)) ∧ Below w.heap.size w w' :=
  reftwo none 0 0 [] t w (Row.nil _ _ _ _) t0 t1 (by omega)
theorem two_on (A : Option Addr) (n c : Nat) (vs : List Value) (zs : List Int) (v : Int) (w : World) (m : Nat) (ys : List Int) (hm : n + 2 = m) (hz : vs = zs.map (Value.int .u8)) (hy : zs ++ [v / 256, v % 256] = ys) (hr : RowV w w.heap.size A n vs) (v0 : 0 ≤ v) (v1 : v ≤ 65535) (hn : n ≤ 100000) :
    Calls Try.prog 80 #[.slice A n c, .int .i64 v] w fun e w' => ∃ g cap, e = .returned (.slice (some ⟨g, 0, none⟩) m cap) ∧ w'.ownsRow w.heap.size 5 1 (.slice (some ⟨g, 0, none⟩) m cap) m (ys.map (Value.int .u8)) ∧ Below w.heap.size w w' := by
  subst hm hy hz
  exact reftwo A n c zs v w hr.ints v0 v1 hn

set_option maxRecDepth 100000 in
set_option maxHeartbeats 1000000 in
theorem rput_yes (t l u : Int) (w : World) (h : hFits t l u) :
    Calls Try.prog 84 #[.agg #[.int .i64 t, .int .i64 l, .int .i64 u]] w fun e w' => ∃ g cap, e = .returned (.tuple #[.slice (some ⟨g, 0, none⟩) 7 cap, .int .i64 0]) ∧ w'.ownsRow w.heap.size 5 1 (.slice (some ⟨g, 0, none⟩) 7 cap) 7 ((headOf t l u).map (Value.int .u8)) ∧ Below w.heap.size w w' := by
  obtain ⟨⟨t0, t1⟩, ⟨l0, l1⟩, u0, u1⟩ := h
  have e3 : u % 256 = u := by omega
  have e4 : IntKind.u8.wrap u = u := IntWalk.u8_in _ (by omega)
  have l2 : l ≤ 65535 := by omega
  have l3 : 0 ≤ l := by omega
  go_enter Try.func84, Try.ntmps84
  go_wp2_with (first
    | (go_at_call 98; refine (place_yes t _ t0 t1).mono ?_; rintro e w' ⟨rfl, rfl⟩)
    | (go_at_call 96; refine (byteful_yes u _ u0 u1).mono ?_; rintro e w' ⟨rfl, rfl⟩))
  obtain ⟨w0, hw0⟩ : ∃ w0, w.alloc (.cells #[.int .i64 t, .int .i64 l, .int .i64 u] 136) = w0 := ⟨_, rfl⟩
  have KS : Hid (∀ W, Below (w.heap.size + 1) w0 W → W.cell? ⟨w.heap.size, 0, none⟩ = some (.int .i64 t) ∧ W.cell? ⟨w.heap.size, 1, none⟩ = some (.int .i64 l) ∧ W.cell? ⟨w.heap.size, 2, none⟩ = some (.int .i64 u) ∧ Below (w.heap.size + 1) w0 W) := by
    intro W hb
    rw [← hw0] at hb ⊢
    exact box_cells t l u _ w W hb
  have hz0 : w0.heap.size = w.heap.size + 1 := by rw [← hw0]; simp
  have HB0 : Hid (Below w.heap.size w w0) := by rw [← hw0]; exact (Below.refl _ _).alloc (Nat.le_refl _) _
  have HZ0 := Lib.hid hz0
  rw [hw0]
  clear hz0 hw0
  have KT : Hid (∀ W W', (W.cell? ⟨w.heap.size, 0, none⟩ = some (.int .i64 t) ∧ W.cell? ⟨w.heap.size, 1, none⟩ = some (.int .i64 l) ∧ W.cell? ⟨w.heap.size, 2, none⟩ = some (.int .i64 u) ∧ Below (w.heap.size + 1) w0 W) → Below W.heap.size W W' →
      W'.cell? ⟨w.heap.size, 0, none⟩ = some (.int .i64 t) ∧ W'.cell? ⟨w.heap.size, 1, none⟩ = some (.int .i64 l) ∧ W'.cell? ⟨w.heap.size, 2, none⟩ = some (.int .i64 u) ∧ Below (w.heap.size + 1) w0 W') := by
    intro W W' hs hb
    exact KS.out _ (hs.2.2.2.trans (hb.mono (by have := hs.2.2.2.size; have := HZ0.out; omega)))
  have KZ : Hid (∀ W, (W.cell? ⟨w.heap.size, 0, none⟩ = some (.int .i64 t) ∧ W.cell? ⟨w.heap.size, 1, none⟩ = some (.int .i64 l) ∧ W.cell? ⟨w.heap.size, 2, none⟩ = some (.int .i64 u) ∧ Below (w.heap.size + 1) w0 W) → w.heap.size + 1 ≤ W.heap.size) := by
    intro W hs
    have := hs.2.2.2.size; have := HZ0.out; omega
  have KB : Hid (∀ W, (W.cell? ⟨w.heap.size, 0, none⟩ = some (.int .i64 t) ∧ W.cell? ⟨w.heap.size, 1, none⟩ = some (.int .i64 l) ∧ W.cell? ⟨w.heap.size, 2, none⟩ = some (.int .i64 u) ∧ Below (w.heap.size + 1) w0 W) → Below (w.heap.size + 1) w0 W) := fun W hs => hs.2.2.2
  go_region_held3 (fun W => W.cell? ⟨w.heap.size, 0, none⟩ = some (.int .i64 t) ∧ W.cell? ⟨w.heap.size, 1, none⟩ = some (.int .i64 l) ∧ W.cell? ⟨w.heap.size, 2, none⟩ = some (.int .i64 u) ∧ Below (w.heap.size + 1) w0 W)
    (first
      | exact KS.out _ (Below.refl _ _).drew
      | exact KT.out _ _ (by assumption) hb7
      | exact KT.out _ _ (by assumption) hb6
      | exact KT.out _ _ (by assumption) hb5
      | exact KT.out _ _ (by assumption) ((Below.refl _ _).alloc (Nat.le_refl _) _)
      | exact KS.out _ (below_append (KB.out _ (by assumption)) (own_mono ho7 hz7) hg8 (KZ.out _ (by assumption)))
      | exact KS.out _ (below_append (KB.out _ (by assumption)) ((own_mono ho7 hz7).alloc _) hg8 (KZ.out _ (by assumption))))
    (first
      | (refine step_append_row (.tmp 30) (.tmp 34) 22 (w.heap.size + 1) 5 (.int .u8 0) 1 Try.underlying22 info5 rfl (.slice (some ⟨g7, 0, none⟩) 6 c7) 6 ([t / 256, t % 256, 0, 0, l / 256, l % 256].map (Value.int .u8)) 1 [.int .u8 u] (by simp [Value.oneCell']) (by omega) (by omega) ?_ ?_ ?_ ?_ ?_
         · exact ⟨rfl, rfl, rfl⟩
         · first | exact own_mono ho7 hz7 | exact (own_mono ho7 hz7).alloc _
         · first
             | exact ⟨_, _, rfl, built_row _ _ [.int .u8 u] _ (Below.refl _ _)⟩
             | exact ⟨_, _, rfl, built_row _ _ [.int .u8 u] _ hb7⟩
             | exact ⟨_, _, rfl, built_row _ _ [.int .u8 u] _ (hb6.trans (hb7.mono hb6.size))⟩
             | exact ⟨_, _, rfl, built_row _ _ [.int .u8 u] _ (below_from (d := 1) ((hb5.trans (hb6.mono hb5.size)).trans (hb7.mono (Nat.le_trans hb5.size hb6.size))))⟩
         · exact KZ.out _ (by assumption)
         intro A8 c8 w8 ho8 hg8)
      | (go_at_call 80
         (with_reducible refine (two_first t _ t0 t1).mono ?_)
         rintro e w5 ⟨g5, c5, rfl, ho5, hb5⟩)
      | (go_at_call 80
         (with_reducible refine (two_on (some ⟨g5, 0, none⟩) 2 c5 _ [t / 256, t % 256] 0 _ 4 [t / 256, t % 256, 0, 0] rfl rfl rfl ?_ (by omega) (by omega) (by omega)).mono ?_)
         · first | exact own_row ho5 | exact own_row (ho5.alloc _)
         rintro e w6 ⟨g6, c6, rfl, ho6, hb6⟩)
      | (go_at_call 80
         (with_reducible refine (two_on (some ⟨g6, 0, none⟩) 4 c6 _ [t / 256, t % 256, 0, 0] l _ 6 [t / 256, t % 256, 0, 0, l / 256, l % 256] rfl rfl rfl ?_ l3 l2 (by omega)).mono ?_)
         · first | exact own_row ho6 | exact own_row (ho6.alloc _)
         have hz7 := KZ.out _ (by assumption)
         rintro e w7 ⟨g7, c7, rfl, ho7, hb7⟩))
  all_goals
    go_wp2
    go_ret2
    obtain ⟨g, cap, hv, _, _⟩ := row_of_own ho8 (by omega)
    injection hv with h1 h2 h3
    subst h1 h3
    exact ⟨g, c8, rfl, own_mono ho8 (by omega), HB0.out.trans ((KB.out _ (by assumption)).mono (by omega))⟩

theorem rput_no_t (t l u : Int) (w : World) (ht : t < 0 ∨ 65535 < t) :
    Calls Try.prog 84 #[.agg #[.int .i64 t, .int .i64 l, .int .i64 u]] w fun e w' => e = .returned (.tuple #[.slice none 0 0, .int .i64 1]) ∧ Below w.heap.size w w' := by
  have HT := Lib.hid ht
  clear ht
  go_enter Try.func84, Try.ntmps84
  go_wp2_with (first
    | (go_at_call 98; refine (place_no t _ HT.out).mono ?_; rintro e w' ⟨rfl, rfl⟩))
  go_ret2
  exact ⟨rfl, (Below.refl _ _).alloc (Nat.le_refl _) _⟩

theorem rput_no_l (t l u : Int) (w : World) (t0 : 0 ≤ t) (t1 : t ≤ 65535) (hl : l < 2) :
    Calls Try.prog 84 #[.agg #[.int .i64 t, .int .i64 l, .int .i64 u]] w fun e w' => e = .returned (.tuple #[.slice none 0 0, .int .i64 1]) ∧ Below w.heap.size w w' := by
  go_enter Try.func84, Try.ntmps84
  go_wp2_with (first
    | (go_at_call 98; refine (place_yes t _ t0 t1).mono ?_; rintro e w' ⟨rfl, rfl⟩))
  go_ret2
  exact ⟨rfl, (Below.refl _ _).alloc (Nat.le_refl _) _⟩

theorem rput_no_m (t l u : Int) (w : World) (t0 : 0 ≤ t) (t1 : t ≤ 65535) (hl : 254 < l) :
    Calls Try.prog 84 #[.agg #[.int .i64 t, .int .i64 l, .int .i64 u]] w fun e w' => e = .returned (.tuple #[.slice none 0 0, .int .i64 1]) ∧ Below w.heap.size w w' := by
  have hl2 : ¬ l < 2 := by omega
  go_enter Try.func84, Try.ntmps84
  go_wp2_with (first
    | (go_at_call 98; refine (place_yes t _ t0 t1).mono ?_; rintro e w' ⟨rfl, rfl⟩))
  go_ret2
  exact ⟨rfl, (Below.refl _ _).alloc (Nat.le_refl _) _⟩

theorem rput_no_u (t l u : Int) (w : World) (t0 : 0 ≤ t) (t1 : t ≤ 65535) (l0 : 2 ≤ l) (l1 : l ≤ 254) (hu : u < 0 ∨ 255 < u) :
    Calls Try.prog 84 #[.agg #[.int .i64 t, .int .i64 l, .int .i64 u]] w fun e w' => e = .returned (.tuple #[.slice none 0 0, .int .i64 1]) ∧ Below w.heap.size w w' := by
  have HU := Lib.hid hu
  clear hu
  go_enter Try.func84, Try.ntmps84
  go_wp2_with (first
    | (go_at_call 98; refine (place_yes t _ t0 t1).mono ?_; rintro e w' ⟨rfl, rfl⟩)
    | (go_at_call 96; refine (byteful_no u _ HU.out).mono ?_; rintro e w' ⟨rfl, rfl⟩))
  go_ret2
  exact ⟨rfl, (Below.refl _ _).alloc (Nat.le_refl _) _⟩

theorem rput_no (t l u : Int) (w : World) (h : ¬ hFits t l u) :
    Calls Try.prog 84 #[.agg #[.int .i64 t, .int .i64 l, .int .i64 u]] w fun e w' => e = .returned (.tuple #[.slice none 0 0, .int .i64 1]) ∧ Below w.heap.size w w' := by
  unfold hFits at h
  by_cases ht : 0 ≤ t ∧ t ≤ 65535
  · by_cases h2 : l < 2
    · exact rput_no_l t l u w ht.1 ht.2 h2
    · by_cases h3 : 254 < l
      · exact rput_no_m t l u w ht.1 ht.2 h3
      · exact rput_no_u t l u w ht.1 ht.2 (by omega) (by omega) (by omega)
  · exact rput_no_t t l u w (by omega)

end Go.Proofs.Ythmendcdfhlkkaa
