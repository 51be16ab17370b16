/- Contracts of the document's Unpack and Set. -/
import Derived.Test.YtokljdkbheogoaaRefBits
import Derived.Test.YtokljdkbheogoaaBitsMore
namespace Go.Proofs.Ytokljdkbheogoaa
open Go.ChangeShapes Go.WideShapes Go.ChangeAt Go.RowKit
set_option linter.unusedVariables false

theorem refunpack_no (A : Option Addr) (m c : Nat) (n : Int) (w : World) (h0 : -9223372036854775808 ≤ n) (h1 : n ≤ 9223372036854775807) (h : n < 0 ∨ nbI n ≠ m) :
    Calls Try.prog 75 #[.slice A m c, .int .i64 n] w fun e w' => e = .returned (.tuple #[.slice none 0 0, .bool false]) ∧ w = w' := by
  by_cases hn : n < 0
  · clear h
    go_enter Try.func75, Try.ntmps75
    go_wp2
    go_ret2
    exact ⟨rfl, rfl⟩
  · have hne : (m : Int) ≠ nbI n := by omega
    obtain ⟨x, hx⟩ : ∃ x, x = nbI n := ⟨_, rfl⟩
    rw [← hx] at hne
    have hd : decide ((m : Int) = x) = false := by simp; exact hne
    have HC : Hid (∀ W, Calls Try.prog 100 #[.int .i64 n] W fun e w' => e = .returned (.int .i64 x) ∧ W = w') := fun W => by rw [hx]; exact refbytes_any n W h0 h1
    clear h hx
    go_enter Try.func75, Try.ntmps75
    go_wp2_with (go_at_call 100; refine (HC.out _).mono ?_; rintro e w1 ⟨rfl, rfl⟩)
    go_ret2
    exact ⟨rfl, rfl⟩

theorem refunpack_yes (A : Option Addr) (n c : Nat) (zs : List Int) (w : World) (hr : Row .u8 w w.heap.size A (nb n) zs) (hx : Bytes8 zs) (hn : n ≤ 100000) :
    Calls Try.prog 75 #[.slice A (nb n) c, .int .i64 (n : Int)] w fun e w' => ∃ B d, e = .returned (.tuple #[.slice B n d, .bool true]) ∧ BRow w' w'.heap.size B n (unb zs n) ∧ Below w.heap.size w w' := by
  have hnb : nb n ≤ 100000 := by have := nb_le n; omega
  have HR := Lib.hid hr
  have HX := Lib.hid hx
  have HB0 := Lib.hid (Below.refl w.heap.size w)
  clear hr hx
  go_enter Try.func75, Try.ntmps75
  go_wp2_with (go_at_call 100; refine (refbytes_nat _ _ (by omega)).mono ?_; rintro e w1 ⟨rfl, rfl⟩)
  go_loopw [6, 7] (fun b i wr => ∃ (k : Nat) (B : Option Addr) (cb : Nat), k ≤ n ∧ i = .int .i64 (k : Int) ∧ b = .slice B k cb ∧ Hid (wr.ownsRow w.heap.size 4 1 (.slice B k cb) k ((unb zs k).map Value.bool)) ∧ Hid (Below w.heap.size w wr)) (fun _ i _ => n - (intOf i).toNat)
  case atStart => exact ⟨0, none, 0, by omega, rfl, rfl, own_none _ _ _, HB0⟩
  case round =>
    obtain ⟨k, B, cb, hk, rfl, rfl, HK, HB⟩ := hrel
    by_cases hlt : k < n
    · have hi1 : (k : Int) < (n : Int) := by omega
      have HR2 := Lib.hid ((HR.out.below HB.out).more HB.out.size)
      go_wp2_with (first
        | (go_at_call 101
           refine (bit_any A (nb n) c zs (k : Int) _ HR2.out HX.out (by omega) (by omega) hnb).mono ?_
           rintro e w1 ⟨rfl, d1, rfl⟩
           have hw : WholeV ((wr.drewN d1).alloc (.cells #[.bool (bitI zs k)] 4)) (wr.drewN d1).heap.size 4 [.bool (bitI zs k)] := heap_alloc_new _ _
           have HW := Lib.hid hw.row
           have HO1 := Lib.hid ((show (wr.drewN d1).ownsRow w.heap.size 4 1 (.slice B k cb) k ((unb zs k).map Value.bool) from HK.out).alloc (o := .cells #[.bool (bitI zs k)] 4))
           have HB1 := Lib.hid ((below_drewN HB.out d1).alloc HB.out.size (.cells #[.bool (bitI zs k)] 4))
           clear hw)
        | (at_builtin
           refine wpList_append_row _ (o := ⟨some 27, _, _, _, _, _⟩) rfl (.tmp 22) (.tmp 26) 26 rfl w.heap.size 4 (.bool false) 1 Try.underlying26 infoBool rfl (.slice B k cb) k _ rfl HO1.out _ (some ⟨wr.heap.size, 0, none⟩) 1 1 [.bool (bitI zs k)] rfl HW.out (bools_oneCell [bitI zs k]) (by omega) (by omega) (by have := HB1.out.size; omega) ?_
           intro v2 w2 hown2 hg2 hat2
           obtain ⟨B2, c2, rfl⟩ := own_slice hown2
           have HO2 := Lib.hid hown2
           have HB2 := Lib.hid (below_append HB1.out HO1.out hg2 (by have := HB1.out.size; omega))
           clear hown2 hg2 hat2))
      go_roundw
      case rel =>
        refine ⟨k + 1, B2, c2, by omega, by go_num, rfl, ?_, HB2⟩
        have h := HO2.out
        rw [bitI_nat] at h
        rw [unb_succ, List.map_append]
        exact h
      case measure => simp [intOf]; omega
    · obtain rfl : n = k := by omega
      go_wp2
      go_ret2
      exact ⟨B, cb, rfl, (own_row HK.out).bools, HB.out⟩

theorem setB_same (zs : List Int) (k : Nat) (v : Bool) (hk : k / 8 < zs.length) (h : bitB zs k = v) : setB zs k v = zs := by
  unfold bitB at h
  unfold setB sb
  rw [if_pos h]
  apply List.ext_getElem?
  intro j
  rw [List.getElem?_set]
  by_cases e : k / 8 = j
  · subst e; simp [hk]
  · simp [e]

end Go.Proofs.Ytokljdkbheogoaa
