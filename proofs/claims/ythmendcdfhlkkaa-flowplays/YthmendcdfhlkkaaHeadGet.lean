/- Contracts of head.Get and of the document's GetHead. -/
import Derived.Test.YthmendcdfhlkkaaHeads
namespace Go.Proofs.Ythmendcdfhlkkaa
open Go.ChangeShapes Go.WideShapes Go.ChangeAt Go.RowKit
set_option linter.unusedVariables false

/-- The protocol is 0 and the length is one. -/
def hGood (zs : List Int) : Prop := wordAt zs 2 = 0 ∧ 2 ≤ wordAt zs 4 ∧ wordAt zs 4 ≤ 254
instance (zs : List Int) : Decidable (hGood zs) := by unfold hGood; infer_instance
/-- The error of Get. -/
def hE (zs : List Int) (n : Nat) : Int := if n < 6 then 3 else if hGood zs then (if n = 6 then 3 else 0) else 2
/-- The header that is got: its three numbers. -/
def hT (zs : List Int) (n : Nat) : Int := if hE zs n = 0 then wordAt zs 0 else 0
def hL (zs : List Int) (n : Nat) : Int := if hE zs n = 0 then wordAt zs 4 else 0
def hU (zs : List Int) (n : Nat) : Int := if hE zs n = 0 then zs.getD 6 0 else 0
def hV (zs : List Int) (n : Nat) : Value := .tuple #[.agg #[.int .i64 (hT zs n), .int .i64 (hL zs n), .int .i64 (hU zs n)], .int .i64 (hE zs n)]
theorem hV_err {zs : List Int} {n : Nat} {e : Int} (h : hE zs n = e) (h0 : e ≠ 0) : hV zs n = .tuple #[.agg #[.int .i64 0, .int .i64 0, .int .i64 0], .int .i64 e] := by
  unfold hV hT hL hU; rw [h, if_neg h0, if_neg h0, if_neg h0]
theorem hV_ok {zs : List Int} {n : Nat} (h : hE zs n = 0) : hV zs n = .tuple #[.agg #[.int .i64 (wordAt zs 0), .int .i64 (wordAt zs 4), .int .i64 (zs.getD 6 0)], .int .i64 0] := by
  unfold hV hT hL hU; rw [h, if_pos rfl, if_pos rfl, if_pos rfl]

theorem wgetI (A : Option Addr) (n c : Nat) (zs : List Int) (k : Nat) (a v : Int) (w : World) (ha : a = k) (hv : wordAt zs k = v) (hr : Row .u8 w w.heap.size A n zs) (hx : Bytes8 zs) (hk : k + 1 < n) (hn : n ≤ 100000) :
    Calls Try.prog 122 #[.slice A n c, .int .i64 a] w (Quiet (.tuple #[.int .u16 v, .bool true]) w) := by
  subst ha hv
  exact wget_yes A n c zs k w hr hx hk hn
theorem refwordI (A : Option Addr) (n c : Nat) (zs : List Int) (k : Nat) (a v : Int) (w : World) (ha : a = k) (hv : wordAt zs k = v) (hr : Row .u8 w w.heap.size A n zs) (hx : Bytes8 zs) (hk : k + 1 < n) (hn : n ≤ 100000) :
    Calls Try.prog 93 #[.slice A n c, .int .i64 a] w (Quiet (.int .i64 v) w) := by
  subst ha hv
  exact refword A n c zs k w hr hx hk hn

theorem hget_few (A : Option Addr) (n c : Nat) (w : World) (hn : n < 6) :
    Calls Try.prog 130 #[.slice A n c] w fun e w' => e = .returned (.tuple #[.agg #[.int .i64 0, .int .i64 0, .int .i64 0], .int .i64 3]) ∧ Below w.heap.size w w' := by
  go_enter Try.func130, Try.ntmps130
  go_wp2
  exact bodyPost_ret (v := .tuple #[.agg #[.int .i64 0, .int .i64 0, .int .i64 0], .int .i64 3]) (by simp [results, Try.results130, go_sem]) rfl ⟨rfl, (Below.refl _ _).alloc (Nat.le_refl _) _⟩

theorem hget_wrong (A : Option Addr) (n c : Nat) (zs : List Int) (w : World) (hr : Row .u8 w w.heap.size A n zs) (hx : Bytes8 zs) (h6 : 6 ≤ n) (hn : n ≤ 100000) (hg : ¬ hGood zs) :
    Calls Try.prog 130 #[.slice A n c] w fun e w' => e = .returned (.tuple #[.agg #[.int .i64 0, .int .i64 0, .int .i64 0], .int .i64 2]) ∧ Below w.heap.size w w' := by
  obtain ⟨b1, b2⟩ := wordAt_bounds hx 4
  obtain ⟨b3, b4⟩ := wordAt_bounds hx 2
  obtain ⟨v, hv⟩ : ∃ v, wordAt zs 2 = v := ⟨_, rfl⟩
  obtain ⟨l, hl⟩ : ∃ l, wordAt zs 4 = l := ⟨_, rfl⟩
  rw [hl] at b1 b2
  rw [hv] at b3 b4
  unfold hGood at hg
  rw [hv, hl] at hg
  have h0 : ¬ (n : Int) < 6 := by omega
  have HR := Lib.hid ((hr.below ((Below.refl w.heap.size w).alloc (Nat.le_refl _) (.cells #[.int .i64 0, .int .i64 0, .int .i64 0] 167))).more (show w.heap.size ≤ (w.alloc (.cells #[.int .i64 0, .int .i64 0, .int .i64 0] 167)).heap.size by simp))
  have HX := Lib.hid hx
  have HV := Lib.hid hv
  have HL := Lib.hid hl
  clear hr hx hv hl
  by_cases hv0 : v = 0
  · have HG : Hid (l < 2 ∨ 254 < l) := by show l < 2 ∨ 254 < l; omega
    subst hv0
    clear hg
    go_enter Try.func130, Try.ntmps130
    go_wp2_with (first
      | (go_at_call 122; (with_reducible refine (wgetI A n c zs 0 0 _ _ rfl rfl (HR.out) HX.out (by omega) hn).mono ?_); rintro e w' ⟨rfl, d0, rfl⟩)
      | (go_at_call 122; (with_reducible refine (wgetI A n c zs 2 2 _ _ rfl HV.out (HR.out.drewN _) HX.out (by omega) hn).mono ?_); rintro e w' ⟨rfl, d2, rfl⟩)
      | (go_at_call 122; (with_reducible refine (wgetI A n c zs 4 4 _ _ rfl HL.out (HR.out.drewN _) HX.out (by omega) hn).mono ?_); rintro e w' ⟨rfl, d4, rfl⟩)
      | (go_at_call 131; refine (allowed_no l _ HG.out).mono ?_; rintro e w' ⟨rfl, rfl⟩))
    exact bodyPost_ret (v := .tuple #[.agg #[.int .i64 0, .int .i64 0, .int .i64 0], .int .i64 2]) (by simp [results, Try.results130, go_sem]) rfl ⟨rfl, (((below_drewN ((Below.refl _ _).alloc (Nat.le_refl _) _) _).setCell (Nat.le_refl _) _).setCell (Nat.le_refl _) _).setCell (Nat.le_refl _) _⟩
  · clear hg
    go_enter Try.func130, Try.ntmps130
    go_wp2_with (first
      | (go_at_call 122; (with_reducible refine (wgetI A n c zs 0 0 _ _ rfl rfl (HR.out) HX.out (by omega) hn).mono ?_); rintro e w' ⟨rfl, d0, rfl⟩)
      | (go_at_call 122; (with_reducible refine (wgetI A n c zs 2 2 _ _ rfl HV.out (HR.out.drewN _) HX.out (by omega) hn).mono ?_); rintro e w' ⟨rfl, d2, rfl⟩)
      | (go_at_call 122; (with_reducible refine (wgetI A n c zs 4 4 _ _ rfl HL.out (HR.out.drewN _) HX.out (by omega) hn).mono ?_); rintro e w' ⟨rfl, d4, rfl⟩)
      | (go_at_call 131; refine (allowed_no l _ HG.out).mono ?_; rintro e w' ⟨rfl, rfl⟩))
    exact bodyPost_ret (v := .tuple #[.agg #[.int .i64 0, .int .i64 0, .int .i64 0], .int .i64 2]) (by simp [results, Try.results130, go_sem]) rfl ⟨rfl, (((below_drewN ((Below.refl _ _).alloc (Nat.le_refl _) _) _).setCell (Nat.le_refl _) _).setCell (Nat.le_refl _) _).setCell (Nat.le_refl _) _⟩

theorem hget_six (A : Option Addr) (n c : Nat) (zs : List Int) (w : World) (hr : Row .u8 w w.heap.size A n zs) (hx : Bytes8 zs) (h6 : n = 6) (hg : hGood zs) :
    Calls Try.prog 130 #[.slice A n c] w fun e w' => e = .returned (.tuple #[.agg #[.int .i64 0, .int .i64 0, .int .i64 0], .int .i64 3]) ∧ Below w.heap.size w w' := by
  subst h6
  have hn : (6 : Nat) ≤ 100000 := by omega
  obtain ⟨b1, b2⟩ := wordAt_bounds hx 4
  obtain ⟨b3, b4⟩ := wordAt_bounds hx 2
  obtain ⟨v, hv⟩ : ∃ v, wordAt zs 2 = v := ⟨_, rfl⟩
  obtain ⟨l, hl⟩ : ∃ l, wordAt zs 4 = l := ⟨_, rfl⟩
  rw [hl] at b1 b2
  rw [hv] at b3 b4
  unfold hGood at hg
  rw [hv, hl] at hg
  have HR := Lib.hid ((hr.below ((Below.refl w.heap.size w).alloc (Nat.le_refl _) (.cells #[.int .i64 0, .int .i64 0, .int .i64 0] 167))).more (show w.heap.size ≤ (w.alloc (.cells #[.int .i64 0, .int .i64 0, .int .i64 0] 167)).heap.size by simp))
  have HX := Lib.hid hx
  have HV := Lib.hid hv
  have HL := Lib.hid hl
  clear hr hx hv hl
  obtain ⟨rfl, g1, g2⟩ := hg
  go_enter Try.func130, Try.ntmps130
  go_wp2_with (first
    | (go_at_call 122; (with_reducible refine (wgetI A 6 c zs 0 0 _ _ rfl rfl (HR.out) HX.out (by omega) hn).mono ?_); rintro e w' ⟨rfl, d0, rfl⟩)
    | (go_at_call 122; (with_reducible refine (wgetI A 6 c zs 2 2 _ _ rfl HV.out (HR.out.drewN _) HX.out (by omega) hn).mono ?_); rintro e w' ⟨rfl, d2, rfl⟩)
    | (go_at_call 122; (with_reducible refine (wgetI A 6 c zs 4 4 _ _ rfl HL.out (HR.out.drewN _) HX.out (by omega) hn).mono ?_); rintro e w' ⟨rfl, d4, rfl⟩)
    | (go_at_call 131; refine (allowed_yes l _ g1 g2).mono ?_; rintro e w' ⟨rfl, rfl⟩))
  exact bodyPost_ret (v := .tuple #[.agg #[.int .i64 0, .int .i64 0, .int .i64 0], .int .i64 3]) (by simp [results, Try.results130, go_sem]) rfl ⟨rfl, (((below_drewN ((Below.refl _ _).alloc (Nat.le_refl _) _) _).setCell (Nat.le_refl _) _).setCell (Nat.le_refl _) _).setCell (Nat.le_refl _) _⟩

theorem hget_ok (A : Option Addr) (n c : Nat) (zs : List Int) (w : World) (hr : Row .u8 w w.heap.size A n zs) (hx : Bytes8 zs) (h7 : 7 ≤ n) (hn : n ≤ 100000) (hg : hGood zs) :
    Calls Try.prog 130 #[.slice A n c] w fun e w' => e = .returned (.tuple #[.agg #[.int .i64 (wordAt zs 0), .int .i64 (wordAt zs 4), .int .i64 (zs.getD 6 0)], .int .i64 0]) ∧ Below w.heap.size w w' := by
  obtain ⟨b1, b2⟩ := wordAt_bounds hx 4
  obtain ⟨b3, b4⟩ := wordAt_bounds hx 2
  obtain ⟨v, hv⟩ : ∃ v, wordAt zs 2 = v := ⟨_, rfl⟩
  obtain ⟨l, hl⟩ : ∃ l, wordAt zs 4 = l := ⟨_, rfl⟩
  rw [hl] at b1 b2
  rw [hv] at b3 b4
  unfold hGood at hg
  rw [hv, hl] at hg
  have h0 : ¬ (n : Int) < 6 := by omega
  have HR := Lib.hid ((hr.below ((Below.refl w.heap.size w).alloc (Nat.le_refl _) (.cells #[.int .i64 0, .int .i64 0, .int .i64 0] 167))).more (show w.heap.size ≤ (w.alloc (.cells #[.int .i64 0, .int .i64 0, .int .i64 0] 167)).heap.size by simp))
  have HX := Lib.hid hx
  have HV := Lib.hid hv
  have HL := Lib.hid hl
  obtain ⟨b5, b6⟩ := wordAt_bounds hx 0
  obtain ⟨b7, b8⟩ := hx.at_ 6
  obtain ⟨t, ht⟩ : ∃ t, wordAt zs 0 = t := ⟨_, rfl⟩
  obtain ⟨u, hu⟩ : ∃ u, zs.getD 6 0 = u := ⟨_, rfl⟩
  obtain ⟨b, off, rfl, hb, hcell⟩ := hr.2 (by omega)
  have hc6 : (w.alloc (.cells #[.int .i64 0, .int .i64 0, .int .i64 0] 167)).cell? ⟨b, off + 6, none⟩ = some (.int .u8 u) := by rw [World.cell?_alloc_lt w _ _ hb, hcell 6 (by omega), hu]
  have hi : (6 : Int) < (n : Int) := by omega
  have h7 : ¬ (n : Int) = 6 := by omega
  rw [hl, ht, hu]
  rw [ht] at b5 b6
  change 0 ≤ zs.getD 6 0 at b7
  change zs.getD 6 0 ≤ 255 at b8
  rw [hu] at b7 b8
  have HT := Lib.hid ht
  clear hr hx hv hl ht hu hcell
  obtain ⟨rfl, g1, g2⟩ := hg
  go_enter Try.func130, Try.ntmps130
  go_wp2_with (first
    | (go_at_call 122; (with_reducible refine (wgetI (some ⟨b, off, none⟩) n c zs 0 0 _ _ rfl HT.out (HR.out) HX.out (by omega) hn).mono ?_); rintro e w' ⟨rfl, d0, rfl⟩)
    | (go_at_call 122; (with_reducible refine (wgetI (some ⟨b, off, none⟩) n c zs 2 2 _ _ rfl HV.out (HR.out.drewN _) HX.out (by omega) hn).mono ?_); rintro e w' ⟨rfl, d2, rfl⟩)
    | (go_at_call 122; (with_reducible refine (wgetI (some ⟨b, off, none⟩) n c zs 4 4 _ _ rfl HL.out (HR.out.drewN _) HX.out (by omega) hn).mono ?_); rintro e w' ⟨rfl, d4, rfl⟩)
    | (go_at_call 131; refine (allowed_yes l _ g1 g2).mono ?_; rintro e w' ⟨rfl, rfl⟩))
  exact bodyPost_ret (v := .tuple #[.agg #[.int .i64 t, .int .i64 l, .int .i64 u], .int .i64 0]) (by simp [results, Try.results130, go_sem]) rfl ⟨rfl, (((below_drewN ((Below.refl _ _).alloc (Nat.le_refl _) _) _).setCell (Nat.le_refl _) _).setCell (Nat.le_refl _) _).setCell (Nat.le_refl _) _⟩

theorem rhead_few (A : Option Addr) (n c : Nat) (w : World) (hn : n < 6) :
    Calls Try.prog 118 #[.slice A n c] w fun e w' => e = .returned (.tuple #[.agg #[.int .i64 0, .int .i64 0, .int .i64 0], .int .i64 3]) ∧ Below w.heap.size w w' := by
  go_enter Try.func118, Try.ntmps118
  go_wp2
  exact bodyPost_ret (v := .tuple #[.agg #[.int .i64 0, .int .i64 0, .int .i64 0], .int .i64 3]) (by simp [results, Try.results118, go_sem]) rfl ⟨rfl, (Below.refl _ _).alloc (Nat.le_refl _) _⟩

theorem rhead_wrong (A : Option Addr) (n c : Nat) (zs : List Int) (w : World) (hr : Row .u8 w w.heap.size A n zs) (hx : Bytes8 zs) (h6 : 6 ≤ n) (hn : n ≤ 100000) (hg : ¬ hGood zs) :
    Calls Try.prog 118 #[.slice A n c] w fun e w' => e = .returned (.tuple #[.agg #[.int .i64 0, .int .i64 0, .int .i64 0], .int .i64 2]) ∧ Below w.heap.size w w' := by
  obtain ⟨b1, b2⟩ := wordAt_bounds hx 4
  obtain ⟨b3, b4⟩ := wordAt_bounds hx 2
  obtain ⟨v, hv⟩ : ∃ v, wordAt zs 2 = v := ⟨_, rfl⟩
  obtain ⟨l, hl⟩ : ∃ l, wordAt zs 4 = l := ⟨_, rfl⟩
  rw [hl] at b1 b2
  rw [hv] at b3 b4
  unfold hGood at hg
  rw [hv, hl] at hg
  have h0 : ¬ (n : Int) < 6 := by omega
  have HR := Lib.hid ((hr.below ((Below.refl w.heap.size w).alloc (Nat.le_refl _) (.cells #[.int .i64 0, .int .i64 0, .int .i64 0] 136))).more (show w.heap.size ≤ (w.alloc (.cells #[.int .i64 0, .int .i64 0, .int .i64 0] 136)).heap.size by simp))
  have HX := Lib.hid hx
  have HV := Lib.hid hv
  have HL := Lib.hid hl
  clear hr hx hv hl
  by_cases hv0 : v = 0
  · subst hv0
    by_cases hl2 : l < 2
    · clear hg
      go_enter Try.func118, Try.ntmps118
      go_wp2_with (first
        | (go_at_call 93; (with_reducible refine (refwordI A n c zs 4 4 _ _ rfl HL.out HR.out HX.out (by omega) hn).mono ?_); rintro e w' ⟨rfl, d4, rfl⟩)
        | (go_at_call 93; (with_reducible refine (refwordI A n c zs 2 2 _ _ rfl HV.out (HR.out.drewN _) HX.out (by omega) hn).mono ?_); rintro e w' ⟨rfl, d2, rfl⟩))
      exact bodyPost_ret (v := .tuple #[.agg #[.int .i64 0, .int .i64 0, .int .i64 0], .int .i64 2]) (by simp [results, Try.results118, go_sem]) rfl ⟨rfl, (((below_drewN ((Below.refl _ _).alloc (Nat.le_refl _) _) _).setCell (Nat.le_refl _) _).setCell (Nat.le_refl _) _).setCell (Nat.le_refl _) _⟩

    · have hl3 : 254 < l := by omega
      have hl4 : ¬ l < 2 := hl2
      clear hg
      go_enter Try.func118, Try.ntmps118
      go_wp2_with (first
        | (go_at_call 93; (with_reducible refine (refwordI A n c zs 4 4 _ _ rfl HL.out HR.out HX.out (by omega) hn).mono ?_); rintro e w' ⟨rfl, d4, rfl⟩)
        | (go_at_call 93; (with_reducible refine (refwordI A n c zs 2 2 _ _ rfl HV.out (HR.out.drewN _) HX.out (by omega) hn).mono ?_); rintro e w' ⟨rfl, d2, rfl⟩))
      exact bodyPost_ret (v := .tuple #[.agg #[.int .i64 0, .int .i64 0, .int .i64 0], .int .i64 2]) (by simp [results, Try.results118, go_sem]) rfl ⟨rfl, (((below_drewN ((Below.refl _ _).alloc (Nat.le_refl _) _) _).setCell (Nat.le_refl _) _).setCell (Nat.le_refl _) _).setCell (Nat.le_refl _) _⟩

  · clear hg
    go_enter Try.func118, Try.ntmps118
    go_wp2_with (first
      | (go_at_call 93; (with_reducible refine (refwordI A n c zs 4 4 _ _ rfl HL.out HR.out HX.out (by omega) hn).mono ?_); rintro e w' ⟨rfl, d4, rfl⟩)
      | (go_at_call 93; (with_reducible refine (refwordI A n c zs 2 2 _ _ rfl HV.out (HR.out.drewN _) HX.out (by omega) hn).mono ?_); rintro e w' ⟨rfl, d2, rfl⟩))
    exact bodyPost_ret (v := .tuple #[.agg #[.int .i64 0, .int .i64 0, .int .i64 0], .int .i64 2]) (by simp [results, Try.results118, go_sem]) rfl ⟨rfl, (((below_drewN ((Below.refl _ _).alloc (Nat.le_refl _) _) _).setCell (Nat.le_refl _) _).setCell (Nat.le_refl _) _).setCell (Nat.le_refl _) _⟩

theorem rhead_six (A : Option Addr) (n c : Nat) (zs : List Int) (w : World) (hr : Row .u8 w w.heap.size A n zs) (hx : Bytes8 zs) (h6 : n = 6) (hg : hGood zs) :
    Calls Try.prog 118 #[.slice A n c] w fun e w' => e = .returned (.tuple #[.agg #[.int .i64 0, .int .i64 0, .int .i64 0], .int .i64 3]) ∧ Below w.heap.size w w' := by
  subst h6
  have hn : (6 : Nat) ≤ 100000 := by omega
  obtain ⟨b1, b2⟩ := wordAt_bounds hx 4
  obtain ⟨b3, b4⟩ := wordAt_bounds hx 2
  obtain ⟨v, hv⟩ : ∃ v, wordAt zs 2 = v := ⟨_, rfl⟩
  obtain ⟨l, hl⟩ : ∃ l, wordAt zs 4 = l := ⟨_, rfl⟩
  rw [hl] at b1 b2
  rw [hv] at b3 b4
  unfold hGood at hg
  rw [hv, hl] at hg
  have HR := Lib.hid ((hr.below ((Below.refl w.heap.size w).alloc (Nat.le_refl _) (.cells #[.int .i64 0, .int .i64 0, .int .i64 0] 136))).more (show w.heap.size ≤ (w.alloc (.cells #[.int .i64 0, .int .i64 0, .int .i64 0] 136)).heap.size by simp))
  have HX := Lib.hid hx
  have HV := Lib.hid hv
  have HL := Lib.hid hl
  clear hr hx hv hl
  obtain ⟨rfl, g1, g2⟩ := hg
  go_enter Try.func118, Try.ntmps118
  go_wp2_with (first
    | (go_at_call 93; (with_reducible refine (refwordI A 6 c zs 4 4 _ _ rfl HL.out HR.out HX.out (by omega) hn).mono ?_); rintro e w' ⟨rfl, d4, rfl⟩)
    | (go_at_call 93; (with_reducible refine (refwordI A 6 c zs 2 2 _ _ rfl HV.out (HR.out.drewN _) HX.out (by omega) hn).mono ?_); rintro e w' ⟨rfl, d2, rfl⟩))
  exact bodyPost_ret (v := .tuple #[.agg #[.int .i64 0, .int .i64 0, .int .i64 0], .int .i64 3]) (by simp [results, Try.results118, go_sem]) rfl ⟨rfl, (((below_drewN ((Below.refl _ _).alloc (Nat.le_refl _) _) _).setCell (Nat.le_refl _) _).setCell (Nat.le_refl _) _).setCell (Nat.le_refl _) _⟩

theorem rhead_ok (A : Option Addr) (n c : Nat) (zs : List Int) (w : World) (hr : Row .u8 w w.heap.size A n zs) (hx : Bytes8 zs) (h7 : 7 ≤ n) (hn : n ≤ 100000) (hg : hGood zs) :
    Calls Try.prog 118 #[.slice A n c] w fun e w' => e = .returned (.tuple #[.agg #[.int .i64 (wordAt zs 0), .int .i64 (wordAt zs 4), .int .i64 (zs.getD 6 0)], .int .i64 0]) ∧ Below w.heap.size w w' := by
  obtain ⟨b1, b2⟩ := wordAt_bounds hx 4
  obtain ⟨b3, b4⟩ := wordAt_bounds hx 2
  obtain ⟨v, hv⟩ : ∃ v, wordAt zs 2 = v := ⟨_, rfl⟩
  obtain ⟨l, hl⟩ : ∃ l, wordAt zs 4 = l := ⟨_, rfl⟩
  rw [hl] at b1 b2
  rw [hv] at b3 b4
  unfold hGood at hg
  rw [hv, hl] at hg
  have h0 : ¬ (n : Int) < 6 := by omega
  have HR := Lib.hid ((hr.below ((Below.refl w.heap.size w).alloc (Nat.le_refl _) (.cells #[.int .i64 0, .int .i64 0, .int .i64 0] 136))).more (show w.heap.size ≤ (w.alloc (.cells #[.int .i64 0, .int .i64 0, .int .i64 0] 136)).heap.size by simp))
  have HX := Lib.hid hx
  have HV := Lib.hid hv
  have HL := Lib.hid hl
  obtain ⟨b5, b6⟩ := wordAt_bounds hx 0
  obtain ⟨b7, b8⟩ := hx.at_ 6
  obtain ⟨t, ht⟩ : ∃ t, wordAt zs 0 = t := ⟨_, rfl⟩
  obtain ⟨u, hu⟩ : ∃ u, zs.getD 6 0 = u := ⟨_, rfl⟩
  obtain ⟨b, off, rfl, hb, hcell⟩ := hr.2 (by omega)
  have hc6 : (w.alloc (.cells #[.int .i64 0, .int .i64 0, .int .i64 0] 136)).cell? ⟨b, off + 6, none⟩ = some (.int .u8 u) := by rw [World.cell?_alloc_lt w _ _ hb, hcell 6 (by omega), hu]
  have hi : (6 : Int) < (n : Int) := by omega
  have h7 : ¬ (n : Int) = 6 := by omega
  rw [hl, ht, hu]
  rw [ht] at b5 b6
  change 0 ≤ zs.getD 6 0 at b7
  change zs.getD 6 0 ≤ 255 at b8
  rw [hu] at b7 b8
  have HT := Lib.hid ht
  clear hr hx hv hl ht hu hcell
  obtain ⟨rfl, g1, g2⟩ := hg
  have hwu : IntKind.i64.wrap u = u := IntWalk.i64_in _ (by omega)
  go_enter Try.func118, Try.ntmps118
  go_wp2_with (first
    | (go_at_call 93; (with_reducible refine (refwordI (some ⟨b, off, none⟩) n c zs 4 4 _ _ rfl HL.out HR.out HX.out (by omega) hn).mono ?_); rintro e w' ⟨rfl, d4, rfl⟩)
    | (go_at_call 93; (with_reducible refine (refwordI (some ⟨b, off, none⟩) n c zs 2 2 _ _ rfl HV.out (HR.out.drewN _) HX.out (by omega) hn).mono ?_); rintro e w' ⟨rfl, d2, rfl⟩))
  go_region_with (go_at_call 93; (with_reducible refine (refwordI (some ⟨b, off, none⟩) n c zs 0 0 _ _ rfl HT.out (HR.out.drewN _) HX.out (by omega) hn).mono ?_); rintro e w' ⟨rfl, d0, rfl⟩)
  all_goals
    go_wp2
    exact bodyPost_ret (v := .tuple #[.agg #[.int .i64 t, .int .i64 l, .int .i64 u], .int .i64 0]) (by simp [results, Try.results118, go_sem]) rfl ⟨rfl, (((below_drewN ((Below.refl _ _).alloc (Nat.le_refl _) _) _).setCell (Nat.le_refl _) _).setCell (Nat.le_refl _) _).setCell (Nat.le_refl _) _⟩

/-- Get, whatever it is given. -/
theorem hget_any (A : Option Addr) (n c : Nat) (zs : List Int) (w : World) (hr : Row .u8 w w.heap.size A n zs) (hx : Bytes8 zs) (hn : n ≤ 100000) :
    Calls Try.prog 130 #[.slice A n c] w fun e w' => e = .returned (hV zs n) ∧ Below w.heap.size w w' := by
  by_cases h6 : n < 6
  · rw [hV_err (show hE zs n = 3 by unfold hE; rw [if_pos h6]) (by decide)]
    exact hget_few A n c w h6
  · by_cases hg : hGood zs
    · by_cases h7 : n = 6
      · rw [hV_err (show hE zs n = 3 by unfold hE; rw [if_neg h6, if_pos hg, if_pos h7]) (by decide)]
        exact hget_six A n c zs w hr hx h7 hg
      · rw [hV_ok (show hE zs n = 0 by unfold hE; rw [if_neg h6, if_pos hg, if_neg h7])]
        exact hget_ok A n c zs w hr hx (by omega) hn hg
    · rw [hV_err (show hE zs n = 2 by unfold hE; rw [if_neg h6, if_neg hg]) (by decide)]
      exact hget_wrong A n c zs w hr hx (by omega) hn hg
theorem rhead_any (A : Option Addr) (n c : Nat) (zs : List Int) (w : World) (hr : Row .u8 w w.heap.size A n zs) (hx : Bytes8 zs) (hn : n ≤ 100000) :
    Calls Try.prog 118 #[.slice A n c] w fun e w' => e = .returned (hV zs n) ∧ Below w.heap.size w w' := by
  by_cases h6 : n < 6
  · rw [hV_err (show hE zs n = 3 by unfold hE; rw [if_pos h6]) (by decide)]
    exact rhead_few A n c w h6
  · by_cases hg : hGood zs
    · by_cases h7 : n = 6
      · rw [hV_err (show hE zs n = 3 by unfold hE; rw [if_neg h6, if_pos hg, if_pos h7]) (by decide)]
        exact rhead_six A n c zs w hr hx h7 hg
      · rw [hV_ok (show hE zs n = 0 by unfold hE; rw [if_neg h6, if_pos hg, if_neg h7])]
        exact rhead_ok A n c zs w hr hx (by omega) hn hg
    · rw [hV_err (show hE zs n = 2 by unfold hE; rw [if_neg h6, if_neg hg]) (by decide)]
      exact rhead_wrong A n c zs w hr hx (by omega) hn hg

end Go.Proofs.Ythmendcdfhlkkaa
