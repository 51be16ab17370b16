/- Joined: Awake5 PLast. -/
import Derived.Test.YtebpilfogdenjaaPParse2
import Derived.Test.YtebpilfogdenjaaRParse2
import Derived.Test.YtebpilfogdenjaaAskSame
namespace Go.Proofs.Ytebpilfogdenjaa
open Go.ChangeShapes Go.WideShapes Go.ChangeAt Go.RowKit
set_option linter.unusedVariables false
set_option linter.unusedSimpArgs false

theorem built_ints5 (k : IntKind) (X W : World) (zs : List Int) (T : TypeId) (h : Below (X.alloc (.cells (zs.map (Value.int k)).toArray T)).heap.size (X.alloc (.cells (zs.map (Value.int k)).toArray T)) W) : Row k W W.heap.size (some ⟨X.heap.size, 0, none⟩) zs.length zs := by
  have h1 := built_row X W (zs.map (Value.int k)) T h
  rw [List.length_map] at h1
  exact h1.ints
theorem own_cap5 {w : World} {base : Nat} {e : TypeId} {A : Option Addr} {n c : Nat} {xs : List Value} (h : w.ownsRow base e 1 (.slice A n c) n xs) : n ≤ c := by
  rcases h.2 with ⟨hv, h0⟩ | ⟨g', cap, cur, hv, _, _, hnc, _⟩
  · omega
  · injection hv with _ _ h3
    omega
theorem parse_lit (zs : List Int) (n c : Nat) (A : Option Addr) (W : World) (fn at_ nn v an orr : Int) (bs : List Bool) (ws : List Int) (ra rn co ob x : Int) (ho : parseOf zs n = (⟨fn, at_, nn, v, an, orr, bs, ws, ra, rn, co, ob⟩, x)) (hr : Row .u8 W W.heap.size A n zs) (hx : Bytes8 zs) (hn : n ≤ 1000) (hc : n ≤ c) :
    Calls Try.prog 11 #[.slice A n c] W fun e w' => ∃ (BA WA : Option Addr) (bc wc : Nat), e = .returned (.tuple #[.agg #[.int .i64 fn, .int .i64 at_, .int .i64 nn, .int .u16 v, .int .u16 an, .int .u16 orr, .slice BA bs.length bc, .slice WA ws.length wc, .int .i64 ra, .int .i64 rn, .int .i64 co, .int .i64 ob], .int .i64 x]) ∧
      w'.ownsRow W.heap.size 4 1 (.slice BA bs.length bc) bs.length (bs.map Value.bool) ∧ w'.ownsRow W.heap.size 26 1 (.slice WA ws.length wc) ws.length (ws.map (Value.int .u16)) ∧ Below W.heap.size W w' := by
  have h := pparse_any A n c zs W hr hx hn hc
  rw [ho] at h
  exact h
/-- The same, of what is no request. -/
theorem parse_not (zs : List Int) (n c : Nat) (A : Option Addr) (W : World) (f x : Int) (ho : parseOf zs n = (⟨f, 0, 0, 0, 0, 0, [], [], 0, 0, 0, 0⟩, x)) (hr : Row .u8 W W.heap.size A n zs) (hx : Bytes8 zs) (hn : n ≤ 1000) (hc : n ≤ c) :
    Calls Try.prog 11 #[.slice A n c] W fun e w' => ∃ (BA WA : Option Addr) (bc wc : Nat), e = .returned (.tuple #[.agg #[.int .i64 f, .int .i64 0, .int .i64 0, .int .u16 0, .int .u16 0, .int .u16 0, .slice BA 0 bc, .slice WA 0 wc, .int .i64 0, .int .i64 0, .int .i64 0, .int .i64 0], .int .i64 x]) ∧ Below W.heap.size W w' :=
  (parse_lit zs n c A W f 0 0 0 0 0 [] [] 0 0 0 0 x ho hr hx hn hc).mono fun _ _ ⟨BA, WA, bc, wc, h1, _, _, h4⟩ => ⟨BA, WA, bc, wc, h1, h4⟩

theorem ex1 : parseOf [1, 0, 19, 0, 37] 5 = (⟨1, 19, 37, 0, 0, 0, [], [], 0, 0, 0, 0⟩, 0) := by kernel_rfl
theorem ex2 : parseOf [3, 0, 0, 0, 126] 5 = (⟨3, 0, 0, 0, 0, 0, [], [], 0, 0, 0, 0⟩, 3) := by kernel_rfl
theorem ex3 : parseOf [7] 1 = (⟨7, 0, 0, 0, 0, 0, [], [], 0, 0, 0, 0⟩, 1) := by kernel_rfl

set_option maxHeartbeats 1000000 in
theorem awake_any (w : World) : Calls Try.prog 8 #[] w fun e w' => e = .returned (.bool true) ∧ Below w.heap.size w w' := by
  go_enter Try.func8, Try.ntmps8
  go_wp2_with fail
  refine (parse_lit [1, 0, 19, 0, 37] 5 5 _ _ 1 19 37 0 0 0 [] [] 0 0 0 0 0 ex1 (built_ints5 .u8 w _ [1, 0, 19, 0, 37] 5 (Below.refl _ _)) (by intro x hx; simp at hx; omega) (by omega) (by omega)).mono ?_
  rintro e w1 ⟨BA, WA, bc, wc, rfl, _, _, hb1⟩
  have HB1 : Hid (Below w.heap.size w w1) := ((Below.refl _ _).alloc (Nat.le_refl _) _).trans (hb1.mono (by simp))
  have h1 : WholeV (w1.alloc (.cells #[.int .i64 1, .int .i64 19, .int .i64 37, .int .u16 0, .int .u16 0, .int .u16 0, .slice BA 0 bc, .slice WA 0 wc, .int .i64 0, .int .i64 0, .int .i64 0, .int .i64 0] 30)) w1.heap.size 30 [.int .i64 1, .int .i64 19, .int .i64 37, .int .u16 0, .int .u16 0, .int .u16 0, .slice BA 0 bc, .slice WA 0 wc, .int .i64 0, .int .i64 0, .int .i64 0, .int .i64 0] := heap_alloc_new w1 _
  have H1 := Lib.hid h1
  have HK1 : Hid (Below w.heap.size w (w1.alloc (.cells #[.int .i64 1, .int .i64 19, .int .i64 37, .int .u16 0, .int .u16 0, .int .u16 0, .slice BA 0 bc, .slice WA 0 wc, .int .i64 0, .int .i64 0, .int .i64 0, .int .i64 0] 30))) := HB1.out.alloc HB1.out.size _
  clear hb1 h1
  go_wp2_with fail
  refine (parse_not [3, 0, 0, 0, 126] 5 5 _ _ 3 3 ex2 (by
    have h := built_ints5 .u8 (w1.alloc (.cells #[.int .i64 1, .int .i64 19, .int .i64 37, .int .u16 0, .int .u16 0, .int .u16 0, .slice BA 0 bc, .slice WA 0 wc, .int .i64 0, .int .i64 0, .int .i64 0, .int .i64 0] 30)) _ [3, 0, 0, 0, 126] 5 (Below.refl _ _)
    rw [show (w1.alloc (.cells #[.int .i64 1, .int .i64 19, .int .i64 37, .int .u16 0, .int .u16 0, .int .u16 0, .slice BA 0 bc, .slice WA 0 wc, .int .i64 0, .int .i64 0, .int .i64 0, .int .i64 0] 30)).heap.size = w1.heap.size + 1 by simp] at h
    exact h) (by intro x hx; simp at hx; omega) (by omega) (by omega)).mono ?_
  rintro e w2 ⟨BB, WB, bd, wd, rfl, hb2⟩
  have hk2 := ((Below.refl _ _).alloc (Nat.le_refl _) _).trans (hb2.mono (by simp))
  have HB2 := Lib.hid (HK1.out.trans (hk2.mono HK1.out.size))
  have H2 := Lib.hid (H1.out.below hk2 H1.out.lt)
  clear hb2 hk2
  go_wp2_with fail
  refine (parse_not [7] 1 1 _ _ 7 1 ex3 (by
    have h := built_ints5 .u8 (w2.alloc (.cells #[.int .i64 3, .int .i64 0, .int .i64 0, .int .u16 0, .int .u16 0, .int .u16 0, .slice BB 0 bd, .slice WB 0 wd, .int .i64 0, .int .i64 0, .int .i64 0, .int .i64 0] 30)) _ [7] 5 (Below.refl _ _)
    rw [show (w2.alloc (.cells #[.int .i64 3, .int .i64 0, .int .i64 0, .int .u16 0, .int .u16 0, .int .u16 0, .slice BB 0 bd, .slice WB 0 wd, .int .i64 0, .int .i64 0, .int .i64 0, .int .i64 0] 30)).heap.size = w2.heap.size + 1 by simp] at h
    exact h) (by intro x hx; simp at hx; omega) (by omega) (by omega)).mono ?_
  rintro e w3 ⟨BC, WC, be, we, rfl, hb3⟩
  have hk3 := (((Below.refl _ _).alloc (Nat.le_refl _) (.cells #[.int .i64 3, .int .i64 0, .int .i64 0, .int .u16 0, .int .u16 0, .int .u16 0, .slice BB 0 bd, .slice WB 0 wd, .int .i64 0, .int .i64 0, .int .i64 0, .int .i64 0] 30)).alloc (by simp) _).trans (hb3.mono (by simp; omega))
  have HB3 := Lib.hid (HB2.out.trans (hk3.mono HB2.out.size))
  have h3 := H2.out.below hk3 H2.out.lt
  have hz3 : w1.heap.size < w3.heap.size := h3.lt
  obtain ⟨hq0, hq1, hq2, _⟩ := cells12 h3
  clear hb3 hk3 h3
  go_wp2
  go_ret
  exact ⟨rfl, HB3.out.alloc HB3.out.size _⟩

theorem right_small (r : Req) (h : r.right) : r.bs.length ≤ 2000 ∧ r.ws.length ≤ 2000 := by
  obtain ⟨hk, hpl, _, _, hfit⟩ := h
  unfold plainP at hpl
  unfold fitsP at hfit
  have m15 : kMostW 15 = 1968 := rfl
  have m16 : kMostW 16 = 123 := rfl
  have m23 : kMostW 23 = 121 := rfl
  refine ⟨?_, ?_⟩
  · by_cases h15 : r.fn = 15
    · rw [h15] at hfit; omega
    · omega
  · by_cases h16 : r.fn = 16
    · rw [h16] at hfit; omega
    · by_cases h23 : r.fn = 23
      · rw [h23] at hfit; omega
      · omega
theorem parse_small (zs : List Int) (n : Nat) : (parseOf zs n).1.bs.length ≤ 2000 ∧ (parseOf zs n).1.ws.length ≤ 2000 := by
  unfold parseOf
  split
  · simp
  split
  · simp
  split
  · simp
  split
  · simp
  split
  · simp
  · rename_i r _
    split
    · rename_i hr
      exact right_small r hr
    · simp
theorem rparse_lit (zs : List Int) (n c : Nat) (A : Option Addr) (W : World) (fn at_ nn v an orr : Int) (bs : List Bool) (ws : List Int) (ra rn co ob x : Int) (ho : parseOf zs n = (⟨fn, at_, nn, v, an, orr, bs, ws, ra, rn, co, ob⟩, x)) (hr : Row .u8 W W.heap.size A n zs) (hx : Bytes8 zs) (hn : n ≤ 1000) (hc : n ≤ c) :
    Calls Try.prog 12 #[.slice A n c] W fun e w' => ∃ (BA WA : Option Addr) (bc wc : Nat), e = .returned (.tuple #[.agg #[.int .i64 fn, .int .i64 at_, .int .i64 nn, .int .u16 v, .int .u16 an, .int .u16 orr, .slice BA bs.length bc, .slice WA ws.length wc, .int .i64 ra, .int .i64 rn, .int .i64 co, .int .i64 ob], .int .i64 x]) ∧
      w'.ownsRow W.heap.size 4 1 (.slice BA bs.length bc) bs.length (bs.map Value.bool) ∧ w'.ownsRow W.heap.size 26 1 (.slice WA ws.length wc) ws.length (ws.map (Value.int .u16)) ∧ Below W.heap.size W w' := by
  have h := rparse_any A n c zs W hr hx hn hc
  rw [ho] at h
  exact h
theorem lent_front {w : World} {g n : Nat} {zs : List Int} (h : Whole .u8 w g 5 (zs ++ [165, 165, 165])) (hl : zs.length = n) : Row .u8 w w.heap.size (some ⟨g, 0, none⟩) n zs := by
  have hr := h.row
  rw [List.length_append, hl] at hr
  exact hr.front hl

end Go.Proofs.Ytebpilfogdenjaa
