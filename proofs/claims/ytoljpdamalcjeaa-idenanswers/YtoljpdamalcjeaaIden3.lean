/- Package iden: greatest, from, room, Clone. -/
import Derived.Test.YtoljpdamalcjeaaIden2
import Derived.Test.YtoljpdamalcjeaaPTell4
import Derived.Lib.SliceRun
namespace Go.Proofs.Ytoljpdamalcjeaa
open Go.ChangeShapes Go.WideShapes Go.ChangeAt Go.RowKit
set_option linter.unusedVariables false
set_option linter.unusedSimpArgs false

theorem igreat_1 (w : World) : Calls Try.prog 94 #[.int .i64 1] w (Quiet (.int .i64 2) w) := by
  go_enter Try.func94, Try.ntmps94
  go_wp2
  go_ret
  exact ⟨rfl, 0, rfl⟩
theorem igreat_2 (w : World) : Calls Try.prog 94 #[.int .i64 2] w (Quiet (.int .i64 127) w) := by
  go_enter Try.func94, Try.ntmps94
  go_wp2
  go_ret
  exact ⟨rfl, 0, rfl⟩
theorem igreat_3 (w : World) : Calls Try.prog 94 #[.int .i64 3] w (Quiet (.int .i64 255) w) := by
  go_enter Try.func94, Try.ntmps94
  go_wp2
  go_ret
  exact ⟨rfl, 0, rfl⟩
/-- The greatest Id of a code. -/
def gOf (co : Int) : Int := if co = 1 then 2 else if co = 2 then 127 else 255
theorem igreat_any (co g : Int) (w : World) (h1 : 1 ≤ co) (h2 : co ≤ 3) (hg : gOf co = g) : Calls Try.prog 94 #[.int .i64 co] w (Quiet (.int .i64 g) w) := by
  subst hg
  rcases (show co = 1 ∨ co = 2 ∨ co = 3 by omega) with rfl | rfl | rfl
  · exact igreat_1 w
  · exact igreat_2 w
  · exact igreat_3 w

theorem ifrom_no (A : Option Addr) (n c : Nat) (os : List Ob) (id : Int) (w : World) (hl : OL w w.heap.size A n os) (hn : n ≤ 100000) (hc : n ≤ c) (h : ∀ k, k < n → (os.getD k ob0).1 ≠ id) :
    Calls Try.prog 92 #[.slice A n c, .int .i64 id] w (Quiet (.slice A n c) w) := by
  have C := Lib.hid (iplace_no A n c os id w hl hn h)
  clear hl h
  go_enter Try.func92, Try.ntmps92
  go_wp2_with (go_at_call 95; refine C.out.mono ?_; rintro e w' ⟨rfl, d, rfl⟩)
  go_ret
  exact ⟨rfl, _, rfl⟩
theorem ifrom_yes (b off : Nat) (n c : Nat) (os : List Ob) (id : Int) (i : Nat) (w : World) (hl : OL w w.heap.size (some ⟨b, off, none⟩) n os) (hn : n ≤ 100000) (hc : n ≤ c) (hin : i < n) (h : ∀ k, k < i → (os.getD k ob0).1 ≠ id) (h2 : (os.getD i ob0).1 = id) :
    Calls Try.prog 92 #[.slice (some ⟨b, off, none⟩) n c, .int .i64 id] w (Quiet (.slice (some ⟨b, off + i * 2, none⟩) (n - i) (c - i)) w) := by
  have C := Lib.hid (iplace_yes (some ⟨b, off, none⟩) n c os id i w hl hn hin h h2)
  clear hl h h2
  go_enter Try.func92, Try.ntmps92
  go_wp2_with (go_at_call 95; refine C.out.mono ?_; rintro e w' ⟨rfl, d, rfl⟩)
  go_ret
  exact ⟨rfl, _, rfl⟩

set_option maxRecDepth 100000 in
theorem iclone_any (A : Option Addr) (n c : Nat) (os : List Ob) (w : World) (hl : OL w w.heap.size A n os) (hn : n ≤ 100000) (hc : n ≤ c) :
    Calls Try.prog 126 #[.slice A n c] w fun e w' => ∃ B d, e = .returned (.slice B n d) ∧ w'.ownsRow w.heap.size 98 2 (.slice B n d) n (obs os) ∧ Below w.heap.size w w' := by
  have HL := Lib.hid hl
  have q := fun w a n c n' c' => Lib.run_eql_slice_nil (P := Try.prog) w 51 98 a n c n' c' Try.underlying51
  rcases A with _ | ad
  · have h0 : n = 0 := by
      rcases Nat.eq_zero_or_pos n with h | h
      · exact h
      · obtain ⟨b, off, hA, _⟩ := hl.2 (by omega)
        cases hA
    subst h0
    clear hl
    go_enter Try.func126, Try.ntmps126
    go_wp2
    go_ret
    obtain rfl : os = [] := List.eq_nil_of_length_eq_zero HL.out.len
    exact ⟨none, 0, rfl, own2_none _ _ _, Below.refl _ _⟩
  · clear hl
    go_enter Try.func126, Try.ntmps126
    go_wp2_with (at_builtin; refine wpList_append_obs _ rfl _ _ rfl w.heap.size _ 0 [] rfl (World.ownsRow_made w #[] 0 (Nat.le_refl _) (Nat.zero_le _) rfl) _ (some ad) n c os rfl (HL.out.below ((Below.refl _ _).alloc (Nat.le_refl _) _)) (by omega) (by simp) ?_)
    intro v' w1 hown hgrow
    obtain ⟨B, d, rfl⟩ := own2_slice hown
    go_wp2
    go_ret
    exact ⟨B, d, rfl, hown, ((Below.refl _ w).alloc (Nat.le_refl _) _).grown hgrow (by simp) (by intro k hk; simp [Value.ownBlock] at hk; omega)⟩

end Go.Proofs.Ytoljpdamalcjeaa
