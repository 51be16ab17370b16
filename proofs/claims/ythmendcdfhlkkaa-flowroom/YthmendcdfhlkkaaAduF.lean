/- A frame's bytes, their fronts, and what stands behind them. No statement is proved here. -/
import Derived.Test.YthmendcdfhlkkaaAdu3
import Derived.Test.YthmendcdfhlkkaaAdu5
namespace Go.Proofs.Ythmendcdfhlkkaa
open Go.ChangeShapes Go.WideShapes Go.ChangeAt Go.RowKit
set_option linter.unusedVariables false
set_option linter.unusedSimpArgs false

theorem wa_take (zs : List Int) (k i : Nat) (h : i + 1 < k) : wordAt (zs.take k) i = wordAt zs i := by
  unfold wordAt
  simp [List.getD_eq_getElem?_getD, List.getElem?_take, h, show i < k by omega]
theorem frame_words (t l u : Int) (zs : List Int) (h : hFits t l u) : wordAt (headOf t l u ++ zs) 0 = t ∧ wordAt (headOf t l u ++ zs) 2 = 0 ∧ wordAt (headOf t l u ++ zs) 4 = l ∧ (headOf t l u ++ zs).getD 6 0 = u := by
  obtain ⟨⟨t0, t1⟩, ⟨l0, l1⟩, u0, u1⟩ := h
  refine ⟨?_, ?_, ?_, ?_⟩ <;> simp [wordAt, headOf, List.getD] <;> omega
theorem frame_bytes (t l u : Int) (zs : List Int) (h : hFits t l u) (hx : Bytes8 zs) : Bytes8 (headOf t l u ++ zs) := by
  obtain ⟨⟨t0, t1⟩, ⟨l0, l1⟩, u0, u1⟩ := h
  intro x hm
  rcases List.mem_append.1 hm with hm | hm
  · simp [headOf] at hm; omega
  · exact hx x hm
theorem take_bytes8 {zs : List Int} (h : Bytes8 zs) (k : Nat) : Bytes8 (zs.take k) := fun x hm => h x (List.mem_of_mem_take hm)
theorem hE_of (Y : List Int) (n : Nat) (l : Int) (h2 : 6 ≤ n → wordAt Y 2 = 0) (h4 : 6 ≤ n → wordAt Y 4 = l) (l0 : 2 ≤ l) (l1 : l ≤ 254) : hE Y n = if n < 7 then 3 else 0 := by
  unfold hE
  by_cases h6 : n < 6
  · rw [if_pos h6, if_pos (by omega)]
  · rw [if_neg h6, if_pos (show hGood Y from ⟨h2 (by omega), by rw [h4 (by omega)]; exact ⟨l0, l1⟩⟩)]
    by_cases h7 : n = 6
    · rw [if_pos h7, if_pos (by omega)]
    · rw [if_neg h7, if_neg (by omega)]

/-- A front of a frame. -/
theorem acut_front (t u : Int) (zs : List Int) (n k c : Nat) (A : Option Addr) (W : World) (hz : zs.length = n) (hx : Bytes8 zs) (h : hFits t (1 + n) u) (hk : k < 7 + n) (hr : Row .u8 W W.heap.size A k ((headOf t (1 + n) u ++ zs).take k)) :
    Calls Try.prog 128 #[.slice A k c] W fun e w' => e = .returned (.tuple #[.agg #[.int .i64 0, .int .i64 0, .slice none 0 0], .int .i64 0, .int .i64 3]) ∧ Below W.heap.size W w' := by
  obtain ⟨f0, f2, f4, f6⟩ := frame_words t (1 + n) u zs h
  have hl := h.2.1
  have he := hE_of ((headOf t (1 + n) u ++ zs).take k) k (1 + n) (fun h6 => by rw [wa_take _ _ _ (by omega)]; exact f2) (fun h6 => by rw [wa_take _ _ _ (by omega)]; exact f4) hl.1 hl.2
  have hb := take_bytes8 (frame_bytes t (1 + n) u zs h hx) k
  by_cases h7 : k < 7
  · rw [if_pos h7] at he
    exact acut_err A k c _ W 3 hr hb (by omega) he (by decide)
  · rw [if_neg h7] at he
    exact acut_more A k c _ W hr hb (by omega) he (by rw [wa_take _ _ _ (by omega), f4]; omega)

/-- A frame, with whatever behind it. -/
theorem acut_frame (t u : Int) (zs ys : List Int) (n m c : Nat) (A : Option Addr) (W : World) (hz : zs.length = n) (hx : Bytes8 zs) (hy : Bytes8 ys) (h : hFits t (1 + n) u) (hm : 7 + n + ys.length = m) (hm2 : m ≤ 100000) (hc : m ≤ c) (hr : Row .u8 W W.heap.size A m (headOf t (1 + n) u ++ zs ++ ys)) :
    Calls Try.prog 128 #[.slice A m c] W fun e w' => ∃ g, e = .returned (.tuple #[.agg #[.int .i64 t, .int .i64 u, .slice (some ⟨g, 0, none⟩) n n], .int .i64 ((7 + n : Nat) : Int), .int .i64 0]) ∧ W.heap.size < g ∧ Whole .u8 w' g 5 zs ∧ Below W.heap.size W w' := by
  obtain ⟨f0, f2, f4, f6⟩ := frame_words t (1 + n) u (zs ++ ys) h
  have hb := frame_bytes t (1 + n) u (zs ++ ys) h (fun x hm => by rcases List.mem_append.1 hm with hm | hm; exact hx x hm; exact hy x hm)
  rw [← List.append_assoc] at f0 f2 f4 f6 hb
  have he := hE_of (headOf t (1 + n) u ++ zs ++ ys) m (1 + n) (fun _ => f2) (fun _ => f4) h.2.1.1 h.2.1.2
  rw [if_neg (by omega)] at he
  have := acut_ok A m c _ W n hr hb hm2 hc he (by rw [f4]; omega) (by omega)
  rw [f0, f6] at this
  have hd : ((headOf t (1 + n) u ++ zs ++ ys).drop 7).take n = zs := by
    have e : (headOf t (1 + n) u ++ zs ++ ys).drop 7 = zs ++ ys := by rw [List.append_assoc]; rfl
    rw [e, ← hz, List.take_left]
  rwa [hd] at this

end Go.Proofs.Ythmendcdfhlkkaa
