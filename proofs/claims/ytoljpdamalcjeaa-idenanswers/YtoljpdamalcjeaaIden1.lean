/- Package iden: place, upTo, above, Level, greatest, from. -/
import Derived.Test.YtoljpdamalcjeaaObjs
namespace Go.Proofs.Ytoljpdamalcjeaa
open Go.ChangeShapes Go.WideShapes Go.ChangeAt Go.RowKit
set_option linter.unusedVariables false
set_option linter.unusedSimpArgs false

theorem iplace_no (A : Option Addr) (n c : Nat) (os : List Ob) (id : Int) (w : World) (hl : OL w w.heap.size A n os) (hn : n ≤ 100000) (h : ∀ k, k < n → (os.getD k ob0).1 ≠ id) :
    Calls Try.prog 95 #[.slice A n c, .int .i64 id] w (Quiet (.tuple #[.int .i64 0, .bool false]) w) := by
  have HL := Lib.hid hl
  have H := Lib.hid h
  clear hl h
  go_enter Try.func95, Try.ntmps95
  go_wp2
  go_loopw [9] (fun i wr => ∃ k e : Nat, k ≤ n ∧ i = .int .i64 (k : Int) ∧ wr = w.drewN e) (fun i _ => n - (intOf i).toNat)
  case atStart => exact ⟨0, 0, by omega, rfl, rfl⟩
  case round =>
    obtain ⟨k, e, hk, rfl, rfl⟩ := hrel
    by_cases hlt : k < n
    · have hi : (k : Int) < (n : Int) := by omega
      obtain ⟨b, off, rfl, hb, hc1, hc2⟩ := HL.out.at_ k hlt
      have hne := H.out k hlt
      obtain ⟨x, hx⟩ : ∃ x, (os.getD k ob0).1 = x := ⟨_, rfl⟩
      rw [hx] at hc1 hne
      clear hx hc2
      have hne2 : (x == id) = false := beq_eq_false_iff_ne.2 hne
      go_wp2
      go_roundw
      case rel => exact ⟨k + 1, _, by omega, by go_num, rfl⟩
      case measure => simp [intOf]; omega
    · obtain rfl : n = k := by omega
      go_wp2
      go_ret2
      exact ⟨rfl, _, rfl⟩

theorem iplace_yes (A : Option Addr) (n c : Nat) (os : List Ob) (id : Int) (i : Nat) (w : World) (hl : OL w w.heap.size A n os) (hn : n ≤ 100000) (hin : i < n) (h : ∀ k, k < i → (os.getD k ob0).1 ≠ id) (h2 : (os.getD i ob0).1 = id) :
    Calls Try.prog 95 #[.slice A n c, .int .i64 id] w (Quiet (.tuple #[.int .i64 (i : Int), .bool true]) w) := by
  have HL := Lib.hid hl
  have H := Lib.hid h
  have H2 := Lib.hid h2
  clear hl h h2
  go_enter Try.func95, Try.ntmps95
  go_wp2
  go_loopw [9] (fun j wr => ∃ k e : Nat, k ≤ i ∧ j = .int .i64 (k : Int) ∧ wr = w.drewN e) (fun j _ => n - (intOf j).toNat)
  case atStart => exact ⟨0, 0, by omega, rfl, rfl⟩
  case round =>
    obtain ⟨k, e, hk, rfl, rfl⟩ := hrel
    have hlt : k < n := by omega
    have hi : (k : Int) < (n : Int) := by omega
    obtain ⟨b, off, rfl, hb, hc1, hc2⟩ := HL.out.at_ k hlt
    by_cases hki : k < i
    · have hne := H.out k hki
      obtain ⟨x, hx⟩ : ∃ x, (os.getD k ob0).1 = x := ⟨_, rfl⟩
      rw [hx] at hc1 hne
      clear hx hc2
      have hne2 : (x == id) = false := beq_eq_false_iff_ne.2 hne
      go_wp2
      go_roundw
      case rel => exact ⟨k + 1, _, by omega, by go_num, rfl⟩
      case measure => simp [intOf]; omega
    · obtain rfl : i = k := by omega
      rw [H2.out] at hc1
      clear hc2
      go_wp2
      go_ret2
      exact ⟨rfl, _, rfl⟩

theorem iupTo_any (A : Option Addr) (n c : Nat) (os : List Ob) (id : Int) (m : Nat) (w : World) (hl : OL w w.heap.size A n os) (hn : n ≤ 100000) (hc : n ≤ c) (hm : m ≤ n) (h : ∀ k, k < m → (os.getD k ob0).1 ≤ id) (h2 : m < n → id < (os.getD m ob0).1) :
    Calls Try.prog 93 #[.slice A n c, .int .i64 id] w (Quiet (.slice A m c) w) := by
  have HL := Lib.hid hl
  have H := Lib.hid h
  have H2 := Lib.hid h2
  clear hl h h2
  go_enter Try.func93, Try.ntmps93
  go_wp2
  go_loopw [8] (fun j wr => ∃ k e : Nat, k ≤ m ∧ j = .int .i64 (k : Int) ∧ wr = w.drewN e) (fun j _ => n - (intOf j).toNat)
  case atStart => exact ⟨0, 0, by omega, rfl, rfl⟩
  case round =>
    obtain ⟨k, e, hk, rfl, rfl⟩ := hrel
    by_cases hlt : k < n
    · have hi : (k : Int) < (n : Int) := by omega
      obtain ⟨b, off, rfl, hb, hc1, hc2⟩ := HL.out.at_ k hlt
      obtain ⟨x, hx⟩ : ∃ x, (os.getD k ob0).1 = x := ⟨_, rfl⟩
      by_cases hki : k < m
      · have hne := H.out k hki
        rw [hx] at hc1 hne
        clear hx hc2
        have hne2 : ¬ id < x := by omega
        go_wp2
        go_roundw
        case rel => exact ⟨k + 1, _, by omega, by go_num, rfl⟩
        case measure => simp [intOf]; omega
      · obtain rfl : m = k := by omega
        have hne := H2.out hlt
        rw [hx] at hc1 hne
        clear hx hc2
        go_wp2
        go_ret
        exact ⟨rfl, _, rfl⟩
    · obtain rfl : n = k := by omega
      obtain rfl : m = n := by omega
      go_wp2
      go_ret
      exact ⟨rfl, _, rfl⟩

theorem iabove_any (A : Option Addr) (n c : Nat) (os : List Ob) (id : Int) (m : Nat) (b : Bool) (w : World) (hl : OL w w.heap.size A n os) (hn : n ≤ 100000) (hc : n ≤ c) (hm : m ≤ n) (h : ∀ k, k < m → (os.getD k ob0).1 ≤ id) (h2 : m < n → id < (os.getD m ob0).1) (hb : decide (m < n) = b) :
    Calls Try.prog 124 #[.slice A n c, .int .i64 id] w (Quiet (.bool b) w) := by
  have HL := Lib.hid hl
  have H := Lib.hid h
  have H2 := Lib.hid h2
  clear hl h h2
  have HB := Lib.hid hb
  clear hb
  go_enter Try.func124, Try.ntmps124
  go_wp2_with (go_at_call 93; refine (iupTo_any A n c os id m _ HL.out hn hc hm H.out H2.out).mono ?_; rintro e w' ⟨rfl, d, rfl⟩)
  go_ret
  exact ⟨ret_bool HB.out, _, rfl⟩

/-- How many objects, from the first on, have Ids that are not above this one. -/
def upN (os : List Ob) (id : Int) : Nat := (os.takeWhile fun o => decide (o.1 ≤ id)).length
theorem upN_le (os : List Ob) (id : Int) : upN os id ≤ os.length := by
  unfold upN
  induction os with
  | nil => simp
  | cons o os ih =>
    rw [List.takeWhile_cons]
    split <;> simp_all
theorem upN_in (os : List Ob) (id : Int) (k : Nat) (hk : k < upN os id) : (os.getD k ob0).1 ≤ id := by
  induction os generalizing k with
  | nil => simp [upN] at hk
  | cons o os ih =>
    unfold upN at hk
    rw [List.takeWhile_cons] at hk
    split at hk
    · rename_i ho
      cases k with
      | zero => simpa using ho
      | succ k => exact ih k (by unfold upN; simpa using hk)
    · simp at hk
theorem upN_out (os : List Ob) (id : Int) (hk : upN os id < os.length) : id < (os.getD (upN os id) ob0).1 := by
  induction os with
  | nil => simp at hk
  | cons o os ih =>
    by_cases ho : o.1 ≤ id
    · have he : upN (o :: os) id = upN os id + 1 := by simp [upN, List.takeWhile_cons, ho]
      rw [he] at hk ⊢
      exact ih (by simpa using hk)
    · have he : upN (o :: os) id = 0 := by simp [upN, List.takeWhile_cons, ho]
      rw [he]
      simpa using ho
/-- The level that the document says. -/
def levelOf (os : List Ob) : Int := if upN os 127 < os.length then 131 else if upN os 2 < os.length then 130 else 129

/-- above, with what it answers reckoned. -/
theorem iabove_up {A : Option Addr} {n c : Nat} {os : List Ob} (id : Int) (b : Bool) (hn : n ≤ 100000) (hc : n ≤ c) (hb : decide (upN os id < os.length) = b) (W : World) (hl : OL W W.heap.size A n os) :
    Calls Try.prog 124 #[.slice A n c, .int .i64 id] W (Quiet (.bool b) W) := by
  have hlen := hl.len
  subst hlen
  exact iabove_any A os.length c os id (upN os id) b W hl hn hc (upN_le _ _) (upN_in _ _) (upN_out _ _) hb

theorem ilevel_any (A : Option Addr) (n c : Nat) (os : List Ob) (v : Int) (w : World) (hl : OL w w.heap.size A n os) (hn : n ≤ 100000) (hc : n ≤ c) (hv : levelOf os = v) :
    Calls Try.prog 90 #[.slice A n c] w (Quiet (.int .i64 v) w) := by
  have HL := Lib.hid hl
  have HD : Hid (∀ d, OL (w.drewN d) (w.drewN d).heap.size A n os) := Lib.hid fun d => hl
  clear hl
  by_cases h1 : upN os 127 < os.length
  · have C1 := Lib.hid (iabove_up (A := A) (n := n) (c := c) (os := os) 127 true hn hc (decide_eq_true h1))
    have hv2 : v = 131 := by rw [← hv]; unfold levelOf; rw [if_pos h1]
    subst hv2
    clear h1 hv
    go_enter Try.func90, Try.ntmps90
    go_wp2_with (go_at_call 124; (with_reducible refine (C1.out _ HL.out).mono ?_); rintro e w' ⟨rfl, d, rfl⟩)
    go_ret
    exact ⟨rfl, _, rfl⟩
  · have C1 := Lib.hid (iabove_up (A := A) (n := n) (c := c) (os := os) 127 false hn hc (decide_eq_false h1))
    by_cases h2 : upN os 2 < os.length
    · have C2 := Lib.hid (iabove_up (A := A) (n := n) (c := c) (os := os) 2 true hn hc (decide_eq_true h2))
      have hv2 : v = 130 := by rw [← hv]; unfold levelOf; rw [if_neg h1, if_pos h2]
      subst hv2
      clear h1 h2 hv
      go_enter Try.func90, Try.ntmps90
      go_wp2_with (first
        | (go_at_call 124; (with_reducible refine (C1.out _ HL.out).mono ?_); rintro e w' ⟨rfl, d, rfl⟩)
        | (go_at_call 124; (with_reducible refine (C2.out _ (HD.out _)).mono ?_); rintro e w' ⟨rfl, d2, rfl⟩))
      go_ret
      exact ⟨rfl, _, rfl⟩
    · have C2 := Lib.hid (iabove_up (A := A) (n := n) (c := c) (os := os) 2 false hn hc (decide_eq_false h2))
      have hv2 : v = 129 := by rw [← hv]; unfold levelOf; rw [if_neg h1, if_neg h2]
      subst hv2
      clear h1 h2 hv
      go_enter Try.func90, Try.ntmps90
      go_wp2_with (first
        | (go_at_call 124; (with_reducible refine (C1.out _ HL.out).mono ?_); rintro e w' ⟨rfl, d, rfl⟩)
        | (go_at_call 124; (with_reducible refine (C2.out _ (HD.out _)).mono ?_); rintro e w' ⟨rfl, d2, rfl⟩))
      go_ret
      exact ⟨rfl, _, rfl⟩

end Go.Proofs.Ytoljpdamalcjeaa
