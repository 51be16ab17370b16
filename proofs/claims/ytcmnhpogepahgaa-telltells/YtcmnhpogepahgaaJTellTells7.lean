/- Joined: HeadGet HeadPut HeadRef. -/
import Derived.Test.YtcmnhpogepahgaaHeads
import Derived.Test.YtcmnhpogepahgaaStep
namespace Go.Proofs.Ytcmnhpogepahgaa
open Go.ChangeShapes Go.WideShapes Go.ChangeAt Go.RowKit
set_option linter.unusedVariables false

/-- The protocol is 0 and the length is one. -/
def hGood (zs : List Int) : Prop := wordAt zs 2 = 0 ∧ 2 ≤ wordAt zs 4 ∧ wordAt zs 4 ≤ 254
instance (zs : List Int) : Decidable (hGood zs) := by unfold hGood; infer_instance
/-- The error of Get. -/
def hE (zs : List Int) (n : Nat) : Int := if n < 6 then 3 else if hGood zs then (if n = 6 then 3 else 0) else 2
/-- The header that is got: its three numbers. -/
def hT (zs : List Int) (n : Nat) : Int := if hE zs n = 0 then wordAt zs 0 else 0
def hL (zs : List Int) (n : Nat) : Int := if hE zs n = 0 then wordAt zs 4 else 0
def hU (zs : List Int) (n : Nat) : Int := if hE zs n = 0 then zs.getD 6 0 else 0
def hV (zs : List Int) (n : Nat) : Value := .tuple #[.agg #[.int .i64 (hT zs n), .int .i64 (hL zs n), .int .i64 (hU zs n)], .int .i64 (hE zs n)]
theorem hV_err {zs : List Int} {n : Nat} {e : Int} (h : hE zs n = e) (h0 : e ≠ 0) : hV zs n = .tuple #[.agg #[.int .i64 0, .int .i64 0, .int .i64 0], .int .i64 e] := by
  unfold hV hT hL hU; rw [h, if_neg h0, if_neg h0, if_neg h0]
theorem hV_ok {zs : List Int} {n : Nat} (h : hE zs n = 0) : hV zs n = .tuple #[.agg #[.int .i64 (wordAt zs 0), .int .i64 (wordAt zs 4), .int .i64 (zs.getD 6 0)], .int .i64 0] := by
  unfold hV hT hL hU; rw [h, if_pos rfl, if_pos rfl, if_pos rfl]

theorem wgetI (A : Option Addr) (n c : Nat) (zs : List Int) (k : Nat) (a v : Int) (w : World) (ha : a = k) (hv : wordAt zs k = v) (hr : Row .u8 w w.heap.size A n zs) (hx : Bytes8 zs) (hk : k + 1 < n) (hn : n ≤ 100000) :
    Calls Try.prog 110 #[.slice A n c, .int .i64 a] w (Quiet (.tuple #[.int .u16 v, .bool true]) w) := by
  subst ha hv
  exact wget_yes A n c zs k w hr hx hk hn
theorem refwordI (A : Option Addr) (n c : Nat) (zs : List Int) (k : Nat) (a v : Int) (w : World) (ha : a = k) (hv : wordAt zs k = v) (hr : Row .u8 w w.heap.size A n zs) (hx : Bytes8 zs) (hk : k + 1 < n) (hn : n ≤ 100000) :
    Calls Try.prog 102 #[.slice A n c, .int .i64 a] w (Quiet (.int .i64 v) w) := by
  subst ha hv
  exact refword A n c zs k w hr hx hk hn

/-- The seven bytes of a header. -/
def headOf (t l u : Int) : List Int := [t / 256, t % 256, 0, 0, l / 256, l % 256, u]
/-- May it be one? -/
def hFits (t l u : Int) : Prop := (0 ≤ t ∧ t ≤ 65535) ∧ (2 ≤ l ∧ l ≤ 254) ∧ (0 ≤ u ∧ u ≤ 255)
instance (t l u : Int) : Decidable (hFits t l u) := by unfold hFits; infer_instance

theorem own_whole {w : World} {g B : Nat} {t : TypeId} {zs : List Int} {n : Nat} (h : Whole .u8 w g t zs) (hb : B ≤ g) (hl : zs.length = n) (hm : n ≤ 100000) : w.ownsRow B t 1 (.slice (some ⟨g, 0, none⟩) n n) n (zs.map (Value.int .u8)) := by
  refine ⟨by simp [hl], .inr ⟨g, n, _, rfl, hb, h, Nat.le_refl _, by unfold maxLen; omega, by simp [hl], ?_⟩⟩
  exact List.take_of_length_le (by simp [hl])

theorem wputI (A : Option Addr) (n c : Nat) (zs : List Int) (v : Int) (w : World) (m : Nat) (ys : List Int) (hm : n + 2 = m) (hy : zs ++ [v / 256, v % 256] = ys) (hr : Row .u8 w w.heap.size A n zs) (hv0 : 0 ≤ v) (hv1 : v ≤ 65535) (hn : n ≤ 100000) :
    Calls Try.prog 86 #[.slice A n c, .int .u16 v] w fun e w' => e = .returned (.slice (some ⟨w.heap.size, 0, none⟩) m m) ∧ Whole .u8 w' w.heap.size 5 ys ∧ Row .u8 w' w'.heap.size (some ⟨w.heap.size, 0, none⟩) m ys ∧ Below w.heap.size w w' ∧ w.heap.size < w'.heap.size := by
  subst hm hy
  refine (wput_any A n c zs v w hr hv0 hv1 hn).mono fun e w' ⟨he, hw, hb⟩ => ⟨he, hw, ?_, hb, hw.lt⟩
  have := hw.row
  rw [List.length_append, hr.1] at this
  exact this

/-- The box of a header. -/
theorem box_cells (t l u : Int) (T : TypeId) (w W : World) (hb : Below (w.heap.size + 1) (w.alloc (.cells #[.int .i64 t, .int .i64 l, .int .i64 u] T)) W) :
    W.cell? ⟨w.heap.size, 0, none⟩ = some (.int .i64 t) ∧ W.cell? ⟨w.heap.size, 1, none⟩ = some (.int .i64 l) ∧ W.cell? ⟨w.heap.size, 2, none⟩ = some (.int .i64 u) ∧ Below (w.heap.size + 1) (w.alloc (.cells #[.int .i64 t, .int .i64 l, .int .i64 u] T)) W := by
  have h := heap_alloc_new w (.cells #[.int .i64 t, .int .i64 l, .int .i64 u] T)
  refine ⟨?_, ?_, ?_, hb⟩ <;> (rw [hb.cell (by simp), cell_of_row _ _ _ _ _ _ h]; rfl)

theorem two_first (t : Int) (w : World) (t0 : 0 ≤ t) (t1 : t ≤ 65535) :
    Calls Try.prog 55 #[.slice none 0 0, .int .i64 t] w fun e w' => ∃ g cap, e = .returned (.slice (some ⟨g, 0, none⟩) 2 cap) ∧ w'.ownsRow w.heap.size 5 1 (.slice (some ⟨g, 0, none⟩) 2 cap) 2 ([t / 256, t % 256].map (Value.int .u8)) ∧ Below w.heap.size w w' :=
  reftwo none 0 0 [] t w (Row.nil _ _ _ _) t0 t1 (by omega)
theorem two_on (A : Option Addr) (n c : Nat) (vs : List Value) (zs : List Int) (v : Int) (w : World) (m : Nat) (ys : List Int) (hm : n + 2 = m) (hz : vs = zs.map (Value.int .u8)) (hy : zs ++ [v / 256, v % 256] = ys) (hr : RowV w w.heap.size A n vs) (v0 : 0 ≤ v) (v1 : v ≤ 65535) (hn : n ≤ 100000) :
    Calls Try.prog 55 #[.slice A n c, .int .i64 v] w fun e w' => ∃ g cap, e = .returned (.slice (some ⟨g, 0, none⟩) m cap) ∧ w'.ownsRow w.heap.size 5 1 (.slice (some ⟨g, 0, none⟩) m cap) m (ys.map (Value.int .u8)) ∧ Below w.heap.size w w' := by
  subst hm hy hz
  exact reftwo A n c zs v w hr.ints v0 v1 hn

end Go.Proofs.Ytcmnhpogepahgaa
