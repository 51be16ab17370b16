/- Contracts of package kind, and of the document's: Table, Most, Known, Reads, Writes, Bits; Within. -/
import Derived.Test.YtielfekkonflfaaGen
namespace Go.Proofs.Ytielfekkonflfaa
open Go.ChangeShapes Go.WideShapes Go.ChangeAt Go.RowKit
set_option linter.unusedVariables false

/-- A number that is no function. -/
structure NoFn (fn : Int) : Prop where
  h1 : fn ≠ 1
  h2 : fn ≠ 2
  h3 : fn ≠ 3
  h4 : fn ≠ 4
  h5 : fn ≠ 5
  h6 : fn ≠ 6
  h15 : fn ≠ 15
  h16 : fn ≠ 16
  h22 : fn ≠ 22
  h23 : fn ≠ 23
  h43 : fn ≠ 43

theorem kinds (fn : Int) : fn = 1 ∨ fn = 2 ∨ fn = 3 ∨ fn = 4 ∨ fn = 5 ∨ fn = 6 ∨ fn = 15 ∨ fn = 16 ∨ fn = 22 ∨ fn = 23 ∨ fn = 43 ∨ NoFn fn := by
  by_cases h1 : fn = 1; · exact .inl h1
  by_cases h2 : fn = 2; · exact .inr (.inl h2)
  by_cases h3 : fn = 3; · exact .inr (.inr (.inl h3))
  by_cases h4 : fn = 4; · exact .inr (.inr (.inr (.inl h4)))
  by_cases h5 : fn = 5; · exact .inr (.inr (.inr (.inr (.inl h5))))
  by_cases h6 : fn = 6; · exact .inr (.inr (.inr (.inr (.inr (.inl h6)))))
  by_cases h15 : fn = 15; · exact .inr (.inr (.inr (.inr (.inr (.inr (.inl h15))))))
  by_cases h16 : fn = 16; · exact .inr (.inr (.inr (.inr (.inr (.inr (.inr (.inl h16)))))))
  by_cases h22 : fn = 22; · exact .inr (.inr (.inr (.inr (.inr (.inr (.inr (.inr (.inl h22))))))))
  by_cases h23 : fn = 23; · exact .inr (.inr (.inr (.inr (.inr (.inr (.inr (.inr (.inr (.inl h23)))))))))
  by_cases h43 : fn = 43; · exact .inr (.inr (.inr (.inr (.inr (.inr (.inr (.inr (.inr (.inr (.inl h43))))))))))
  exact .inr (.inr (.inr (.inr (.inr (.inr (.inr (.inr (.inr (.inr (.inr ⟨h1, h2, h3, h4, h5, h6, h15, h16, h22, h23, h43⟩))))))))))

def kTab (fn : Int) : Int := if fn = 2 then 1 else if fn = 3 ∨ fn = 6 ∨ fn = 16 ∨ fn = 22 ∨ fn = 23 then 2 else if fn = 4 then 3 else 0
def kHas (fn : Int) : Bool := decide (fn = 1 ∨ fn = 2 ∨ fn = 3 ∨ fn = 4 ∨ fn = 5 ∨ fn = 6 ∨ fn = 15 ∨ fn = 16 ∨ fn = 22 ∨ fn = 23)
def kReads (fn : Int) : Bool := decide (fn = 1 ∨ fn = 2 ∨ fn = 3 ∨ fn = 4 ∨ fn = 22 ∨ fn = 23)
def kWrites (fn : Int) : Bool := decide (fn = 5 ∨ fn = 6 ∨ fn = 15 ∨ fn = 16 ∨ fn = 22 ∨ fn = 23)
def kMostR (fn : Int) : Int := if fn = 1 ∨ fn = 2 then 2000 else if fn = 3 ∨ fn = 4 ∨ fn = 23 then 125 else 0
def kMostW (fn : Int) : Int := if fn = 5 ∨ fn = 6 ∨ fn = 22 then 1 else if fn = 15 then 1968 else if fn = 16 then 123 else if fn = 23 then 121 else 0
def kBits (t : Int) : Bool := decide (t = 0 ∨ t = 1)

def kKnown (fn : Int) : Bool := kHas fn || decide (fn = 43)

theorem NoFn.tab {fn : Int} (h : NoFn fn) : kTab fn = 0 := by unfold kTab; simp [h.h2, h.h3, h.h4, h.h6, h.h16, h.h22, h.h23]
theorem NoFn.has {fn : Int} (h : NoFn fn) : kHas fn = false := by unfold kHas; simp [h.h1, h.h2, h.h3, h.h4, h.h5, h.h6, h.h15, h.h16, h.h22, h.h23]
theorem NoFn.known {fn : Int} (h : NoFn fn) : kKnown fn = false := by unfold kKnown; simp [h.has, h.h43]
theorem NoFn.reads {fn : Int} (h : NoFn fn) : kReads fn = false := by unfold kReads; simp [h.h1, h.h2, h.h3, h.h4, h.h22, h.h23]
theorem NoFn.writes {fn : Int} (h : NoFn fn) : kWrites fn = false := by unfold kWrites; simp [h.h5, h.h6, h.h15, h.h16, h.h22, h.h23]
theorem NoFn.mostR {fn : Int} (h : NoFn fn) : kMostR fn = 0 := by unfold kMostR; simp [h.h1, h.h2, h.h3, h.h4, h.h23]
theorem NoFn.mostW {fn : Int} (h : NoFn fn) : kMostW fn = 0 := by unfold kMostW; simp [h.h5, h.h6, h.h15, h.h16, h.h22, h.h23]

theorem ktable_no (fn : Int) (w : World) (h : NoFn fn) :
    Calls Try.prog 57 #[.int .i64 fn] w fun e w' => e = .returned (.tuple #[.int .i64 0, .bool false]) ∧ w = w' := by
  have HF := Lib.hid h
  obtain ⟨h1, h2, h3, h4, h5, h6, h15, h16, h22, h23, h43⟩ := h
  go_enter Try.func57, Try.ntmps57
  go_wp2
  go_ret2
  exact ⟨rfl, rfl⟩

theorem ktable_any (fn : Int) (w : World) :
    Calls Try.prog 57 #[.int .i64 fn] w fun e w' => e = .returned (.tuple #[.int .i64 (kTab fn), .bool (kHas fn)]) ∧ w = w' := by
  rcases kinds fn with rfl | rfl | rfl | rfl | rfl | rfl | rfl | rfl | rfl | rfl | rfl | h
  case inr.inr.inr.inr.inr.inr.inr.inr.inr.inr.inr =>
    rw [h.tab, h.has]; exact ktable_no fn w h
  all_goals
    go_enter Try.func57, Try.ntmps57
    go_wp2
    go_ret2
    exact ⟨rfl, rfl⟩

theorem rtable_no (fn : Int) (w : World) (h : NoFn fn) :
    Calls Try.prog 44 #[.int .i64 fn] w fun e w' => e = .returned (.tuple #[.int .i64 0, .bool false]) ∧ w = w' := by
  have HF := Lib.hid h
  obtain ⟨h1, h2, h3, h4, h5, h6, h15, h16, h22, h23, h43⟩ := h
  go_enter Try.func44, Try.ntmps44
  go_wp2
  go_ret2
  exact ⟨rfl, rfl⟩

theorem rtable_any (fn : Int) (w : World) :
    Calls Try.prog 44 #[.int .i64 fn] w fun e w' => e = .returned (.tuple #[.int .i64 (kTab fn), .bool (kHas fn)]) ∧ w = w' := by
  rcases kinds fn with rfl | rfl | rfl | rfl | rfl | rfl | rfl | rfl | rfl | rfl | rfl | h
  case inr.inr.inr.inr.inr.inr.inr.inr.inr.inr.inr =>
    rw [h.tab, h.has]; exact rtable_no fn w h
  all_goals
    go_enter Try.func44, Try.ntmps44
    go_wp2
    go_ret2
    exact ⟨rfl, rfl⟩

theorem kmost_no (fn : Int) (w : World) (h : NoFn fn) :
    Calls Try.prog 58 #[.int .i64 fn] w fun e w' => e = .returned (.tuple #[.int .i64 0, .int .i64 0]) ∧ w = w' := by
  have HF := Lib.hid h
  obtain ⟨h1, h2, h3, h4, h5, h6, h15, h16, h22, h23, h43⟩ := h
  go_enter Try.func58, Try.ntmps58
  go_wp2
  go_ret2
  exact ⟨rfl, rfl⟩

theorem kmost_any (fn : Int) (w : World) :
    Calls Try.prog 58 #[.int .i64 fn] w fun e w' => e = .returned (.tuple #[.int .i64 (kMostR fn), .int .i64 (kMostW fn)]) ∧ w = w' := by
  rcases kinds fn with rfl | rfl | rfl | rfl | rfl | rfl | rfl | rfl | rfl | rfl | rfl | h
  case inr.inr.inr.inr.inr.inr.inr.inr.inr.inr.inr =>
    rw [h.mostR, h.mostW]; exact kmost_no fn w h
  all_goals
    go_enter Try.func58, Try.ntmps58
    go_wp2
    go_ret2
    exact ⟨rfl, rfl⟩

theorem rmost_no (fn : Int) (w : World) (h : NoFn fn) :
    Calls Try.prog 67 #[.int .i64 fn] w fun e w' => e = .returned (.tuple #[.int .i64 0, .int .i64 0]) ∧ w = w' := by
  have HF := Lib.hid h
  obtain ⟨h1, h2, h3, h4, h5, h6, h15, h16, h22, h23, h43⟩ := h
  go_enter Try.func67, Try.ntmps67
  go_wp2
  go_ret2
  exact ⟨rfl, rfl⟩

theorem rmost_any (fn : Int) (w : World) :
    Calls Try.prog 67 #[.int .i64 fn] w fun e w' => e = .returned (.tuple #[.int .i64 (kMostR fn), .int .i64 (kMostW fn)]) ∧ w = w' := by
  rcases kinds fn with rfl | rfl | rfl | rfl | rfl | rfl | rfl | rfl | rfl | rfl | rfl | h
  case inr.inr.inr.inr.inr.inr.inr.inr.inr.inr.inr =>
    rw [h.mostR, h.mostW]; exact rmost_no fn w h
  all_goals
    go_enter Try.func67, Try.ntmps67
    go_wp2
    go_ret2
    exact ⟨rfl, rfl⟩

theorem kknown_no (fn : Int) (w : World) (h : NoFn fn) :
    Calls Try.prog 27 #[.int .i64 fn] w fun e w' => e = .returned (.bool false) ∧ w = w' := by
  have HF := Lib.hid h
  obtain ⟨h1, h2, h3, h4, h5, h6, h15, h16, h22, h23, h43⟩ := h
  go_enter Try.func27, Try.ntmps27
  go_wp2_with (go_at_call 57; refine (ktable_no _ _ HF.out).mono ?_; rintro e w1 ⟨rfl, rfl⟩)
  go_ret
  exact ⟨rfl, rfl⟩

theorem kknown_any (fn : Int) (w : World) :
    Calls Try.prog 27 #[.int .i64 fn] w fun e w' => e = .returned (.bool (kKnown fn)) ∧ w = w' := by
  rcases kinds fn with rfl | rfl | rfl | rfl | rfl | rfl | rfl | rfl | rfl | rfl | rfl | h
  case inr.inr.inr.inr.inr.inr.inr.inr.inr.inr.inr =>
    rw [h.known]; exact kknown_no fn w h
  all_goals
    go_enter Try.func27, Try.ntmps27
    go_wp2_with (go_at_call 57; refine (ktable_any _ _).mono ?_; rintro e w1 ⟨rfl, rfl⟩)
    go_ret
    exact ⟨rfl, rfl⟩

theorem rknown_no (fn : Int) (w : World) (h : NoFn fn) :
    Calls Try.prog 72 #[.int .i64 fn] w fun e w' => e = .returned (.bool false) ∧ w = w' := by
  have HF := Lib.hid h
  obtain ⟨h1, h2, h3, h4, h5, h6, h15, h16, h22, h23, h43⟩ := h
  rcases (show fn < 1 ∨ 6 < fn by omega) with hs | hs
  · go_enter Try.func72, Try.ntmps72
    go_wp2
    go_ret
    exact ⟨ret_bool (by simp; omega), rfl⟩
  · go_enter Try.func72, Try.ntmps72
    go_wp2
    go_ret
    exact ⟨ret_bool (by simp; omega), rfl⟩

theorem rknown_any (fn : Int) (w : World) :
    Calls Try.prog 72 #[.int .i64 fn] w fun e w' => e = .returned (.bool (kKnown fn)) ∧ w = w' := by
  rcases kinds fn with rfl | rfl | rfl | rfl | rfl | rfl | rfl | rfl | rfl | rfl | rfl | h
  case inr.inr.inr.inr.inr.inr.inr.inr.inr.inr.inr =>
    rw [h.known]; exact rknown_no fn w h
  all_goals
    go_enter Try.func72, Try.ntmps72
    go_wp2
    go_ret
    exact ⟨rfl, rfl⟩

end Go.Proofs.Ytielfekkonflfaa
