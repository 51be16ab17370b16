/- The document's read of a request that writes coils. -/
import Derived.Test.YtebpilfogdenjaaRefMore
import Derived.Test.YtebpilfogdenjaaAskSet
import Derived.Test.YtebpilfogdenjaaAskList2
import Derived.Test.YtebpilfogdenjaaTail
namespace Go.Proofs.Ytebpilfogdenjaa
open Go.ChangeShapes Go.WideShapes Go.ChangeAt Go.RowKit
set_option linter.unusedVariables false
set_option linter.unusedSimpArgs false

theorem refunpack_own (A : Option Addr) (n c : Nat) (zs : List Int) (w : World) (hr : Row .u8 w w.heap.size A (nb n) zs) (hx : Bytes8 zs) (hn : n ≤ 100000) :
    Calls Try.prog 49 #[.slice A (nb n) c, .int .i64 (n : Int)] w fun e w' => ∃ B d, e = .returned (.tuple #[.slice B n d, .bool true]) ∧ w'.ownsRow w.heap.size 4 1 (.slice B n d) n ((unb zs n).map Value.bool) ∧ Below w.heap.size w w' := by
  have hnb : nb n ≤ 100000 := by have := nb_le n; omega
  have HR := Lib.hid hr
  have HX := Lib.hid hx
  have HB0 := Lib.hid (Below.refl w.heap.size w)
  clear hr hx
  go_enter Try.func49, Try.ntmps49
  go_wp2_with (go_at_call 50; refine (refbytes_nat _ _ (by omega)).mono ?_; rintro e w1 ⟨rfl, rfl⟩)
  go_loopw [6, 7] (fun b i wr => ∃ (k : Nat) (B : Option Addr) (cb : Nat), k ≤ n ∧ i = .int .i64 (k : Int) ∧ b = .slice B k cb ∧ Hid (wr.ownsRow w.heap.size 4 1 (.slice B k cb) k ((unb zs k).map Value.bool)) ∧ Hid (Below w.heap.size w wr)) (fun _ i _ => n - (intOf i).toNat)
  case atStart => exact ⟨0, none, 0, by omega, rfl, rfl, own_none _ _ _, HB0⟩
  case round =>
    obtain ⟨k, B, cb, hk, rfl, rfl, HK, HB⟩ := hrel
    by_cases hlt : k < n
    · have hi1 : (k : Int) < (n : Int) := by omega
      have HR2 := Lib.hid ((HR.out.below HB.out).more HB.out.size)
      go_wp2_with (first
        | (go_at_call 34
           refine (bit_any A (nb n) c zs (k : Int) _ HR2.out HX.out (by omega) (by omega) hnb).mono ?_
           rintro e w1 ⟨rfl, d1, rfl⟩
           have hw : WholeV ((wr.drewN d1).alloc (.cells #[.bool (bitI zs k)] 4)) (wr.drewN d1).heap.size 4 [.bool (bitI zs k)] := heap_alloc_new _ _
           have HW := Lib.hid hw.row
           have HO1 := Lib.hid ((show (wr.drewN d1).ownsRow w.heap.size 4 1 (.slice B k cb) k ((unb zs k).map Value.bool) from HK.out).alloc (o := .cells #[.bool (bitI zs k)] 4))
           have HB1 := Lib.hid ((below_drewN HB.out d1).alloc HB.out.size (.cells #[.bool (bitI zs k)] 4))
           clear hw)
        | (at_builtin
           refine wpList_append_row _ (o := ⟨some 27, _, _, _, _, _⟩) rfl (.tmp 22) (.tmp 26) 27 rfl w.heap.size 4 (.bool false) 1 Try.underlying27 infoBool rfl (.slice B k cb) k _ rfl HO1.out _ (some ⟨wr.heap.size, 0, none⟩) 1 1 [.bool (bitI zs k)] rfl HW.out (bools_oneCell [bitI zs k]) (by omega) (by omega) (by have := HB1.out.size; omega) ?_
           intro v2 w2 hown2 hg2 hat2
           obtain ⟨B2, c2, rfl⟩ := own_slice hown2
           have HO2 := Lib.hid hown2
           have HB2 := Lib.hid (below_append HB1.out HO1.out hg2 (by have := HB1.out.size; omega))
           clear hown2 hg2 hat2))
      go_roundw
      case rel =>
        refine ⟨k + 1, B2, c2, by omega, by go_num, rfl, ?_, HB2⟩
        have h := HO2.out
        rw [bitI_nat] at h
        rw [unb_succ, List.map_append]
        exact h
      case measure => simp [intOf]; omega
    · obtain rfl : n = k := by omega
      go_wp2
      go_ret2
      exact ⟨B, cb, rfl, HK.out, HB.out⟩

theorem refunpack_at (A : Option Addr) (m c k : Nat) (y : Int) (zs : List Int) (w : World) (hm : (m : Int) = ((nb k : Nat) : Int)) (hy : y = (k : Int)) (hr : Row .u8 w w.heap.size A m zs) (hx : Bytes8 zs) (hk : k ≤ 100000) :
    Calls Try.prog 49 #[.slice A m c, .int .i64 y] w fun e w' => ∃ B d, e = .returned (.tuple #[.slice B k d, .bool true]) ∧ w'.ownsRow w.heap.size 4 1 (.slice B k d) k ((unb zs k).map Value.bool) ∧ Below w.heap.size w w' := by
  obtain rfl : m = nb k := by omega
  subst hy
  exact refunpack_own A k c zs w hr hx hk

set_option maxRecDepth 100000 in
set_option maxHeartbeats 1000000 in
theorem rread_15_few (A : Option Addr) (n c : Nat) (zs : List Int) (w : World) (hr : Row .u8 w w.heap.size A n zs) (hx : Bytes8 zs) (hn : n ≤ 1000) (h1 : 1 ≤ n) (h0 : zs.getD 0 0 = 15) (hl : n < 6) :
    Calls Try.prog 25 #[.slice A n c] w fun e w' => e = .returned (.tuple #[.agg #[.int .i64 15, .int .i64 0, .int .i64 0, .int .u16 0, .int .u16 0, .int .u16 0, .slice none 0 0, .slice none 0 0, .int .i64 0, .int .i64 0, .int .i64 0, .int .i64 0], .bool false]) ∧ Below w.heap.size w w' := by
  have hl' : (n : Int) < 6 := by omega
  obtain ⟨b, off, rfl, hb, hcell⟩ := hr.2 (by omega)
  have hc0 : (w.alloc (.cells #[.int .i64 0, .int .i64 0, .int .i64 0, .int .u16 0, .int .u16 0, .int .u16 0, .slice none 0 0, .slice none 0 0, .int .i64 0, .int .i64 0, .int .i64 0, .int .i64 0] 30)).cell? ⟨b, off, none⟩ = some (.int .u8 15) := by
    rw [World.cell?_alloc_lt w _ ⟨b, off, none⟩ hb]
    have := hcell 0 (by omega)
    rw [Nat.add_zero, h0] at this
    exact this
  have hn0 : (0 : Int) < (n : Int) := by omega
  have hkw : Below w.heap.size w ((w.alloc (.cells #[.int .i64 0, .int .i64 0, .int .i64 0, .int .u16 0, .int .u16 0, .int .u16 0, .slice none 0 0, .slice none 0 0, .int .i64 0, .int .i64 0, .int .i64 0, .int .i64 0] 30)).alloc (.cells #[.int .i64 15, .int .i64 0, .int .i64 0, .int .u16 0, .int .u16 0, .int .u16 0, .slice none 0 0, .slice none 0 0, .int .i64 0, .int .i64 0, .int .i64 0, .int .i64 0] 30)) := ((Below.refl _ _).alloc (Nat.le_refl _) _).alloc (by simp) _
  have HR := Lib.hid ((hr.below hkw).more hkw.size)
  have HX := Lib.hid hx
  clear hr hx hcell hkw
  clear h0
  go_enter Try.func25, Try.ntmps25
  go_wp2
  exact bodyPost_ret (v := .tuple #[.agg #[.int .i64 15, .int .i64 0, .int .i64 0, .int .u16 0, .int .u16 0, .int .u16 0, .slice none 0 0, .slice none 0 0, .int .i64 0, .int .i64 0, .int .i64 0, .int .i64 0], .bool false]) (by simp [results, Try.results25, go_sem]) rfl ⟨rfl, ((Below.refl _ _).alloc (Nat.le_refl _) _).alloc (by simp) _⟩

set_option maxRecDepth 100000 in
set_option maxHeartbeats 1000000 in
theorem rread_15_noa (A : Option Addr) (n c : Nat) (zs : List Int) (w : World) (hr : Row .u8 w w.heap.size A n zs) (hx : Bytes8 zs) (hn : n ≤ 1000) (h1 : 1 ≤ n) (p q u : Int) (t : Nat) (h0 : zs.getD 0 0 = 15) (hl : n = 6 + t) (hc : n ≤ c) (hcap : ¬ c = 6) (hu : zs.getD 5 0 = u) (hp : gotW zs n 1 = p) (hq : gotW zs n 3 = q) (hbad : nbI q ≠ (t : Int)) :
    Calls Try.prog 25 #[.slice A n c] w fun e w' => e = .returned (.tuple #[.agg #[.int .i64 15, .int .i64 p, .int .i64 q, .int .u16 0, .int .u16 0, .int .u16 0, .slice none 0 0, .slice none 0 0, .int .i64 0, .int .i64 0, .int .i64 0, .int .i64 0], .bool false]) ∧ Below w.heap.size w w' := by
  obtain ⟨lop, hip⟩ := gotW_bounds hx n 1
  rw [hp] at lop hip
  obtain ⟨loq, hiq⟩ := gotW_bounds hx n 3
  rw [hq] at loq hiq
  obtain ⟨lou, hiu⟩ := hx.at_ 5
  change 0 ≤ zs.getD 5 0 at lou
  change zs.getD 5 0 ≤ 255 at hiu
  rw [hu] at lou hiu
  subst hl
  have hct : 6 < c := by omega
  obtain ⟨b, off, rfl, hb, hcell⟩ := hr.2 (by omega)
  have hc0 : (w.alloc (.cells #[.int .i64 0, .int .i64 0, .int .i64 0, .int .u16 0, .int .u16 0, .int .u16 0, .slice none 0 0, .slice none 0 0, .int .i64 0, .int .i64 0, .int .i64 0, .int .i64 0] 30)).cell? ⟨b, off, none⟩ = some (.int .u8 15) := by
    rw [World.cell?_alloc_lt w _ ⟨b, off, none⟩ hb]
    have := hcell 0 (by omega)
    rw [Nat.add_zero, h0] at this
    exact this
  have hn0 : (0 : Int) < (((6 + t) : Nat) : Int) := by omega
  have hkw : Below w.heap.size w ((w.alloc (.cells #[.int .i64 0, .int .i64 0, .int .i64 0, .int .u16 0, .int .u16 0, .int .u16 0, .slice none 0 0, .slice none 0 0, .int .i64 0, .int .i64 0, .int .i64 0, .int .i64 0] 30)).alloc (.cells #[.int .i64 15, .int .i64 0, .int .i64 0, .int .u16 0, .int .u16 0, .int .u16 0, .slice none 0 0, .slice none 0 0, .int .i64 0, .int .i64 0, .int .i64 0, .int .i64 0] 30)) := ((Below.refl _ _).alloc (Nat.le_refl _) _).alloc (by simp) _
  have HR := Lib.hid ((hr.below hkw).more hkw.size)
  have HX := Lib.hid hx
  have HKW := Lib.hid hkw
  have HG4 : Hid (WholeV ((w.alloc (.cells #[.int .i64 0, .int .i64 0, .int .i64 0, .int .u16 0, .int .u16 0, .int .u16 0, .slice none 0 0, .slice none 0 0, .int .i64 0, .int .i64 0, .int .i64 0, .int .i64 0] 30)).alloc (.cells #[.int .i64 15, .int .i64 0, .int .i64 0, .int .u16 0, .int .u16 0, .int .u16 0, .slice none 0 0, .slice none 0 0, .int .i64 0, .int .i64 0, .int .i64 0, .int .i64 0] 30)) (w.heap.size + 1) 30 [.int .i64 15, .int .i64 0, .int .i64 0, .int .u16 0, .int .u16 0, .int .u16 0, .slice none 0 0, .slice none 0 0, .int .i64 0, .int .i64 0, .int .i64 0, .int .i64 0]) := by
    have h := heap_alloc_new (w.alloc (.cells #[.int .i64 0, .int .i64 0, .int .i64 0, .int .u16 0, .int .u16 0, .int .u16 0, .slice none 0 0, .slice none 0 0, .int .i64 0, .int .i64 0, .int .i64 0, .int .i64 0] 30)) (.cells #[.int .i64 15, .int .i64 0, .int .i64 0, .int .u16 0, .int .u16 0, .int .u16 0, .slice none 0 0, .slice none 0 0, .int .i64 0, .int .i64 0, .int .i64 0, .int .i64 0] 30)
    rwa [show (w.alloc (.cells #[.int .i64 0, .int .i64 0, .int .i64 0, .int .u16 0, .int .u16 0, .int .u16 0, .slice none 0 0, .slice none 0 0, .int .i64 0, .int .i64 0, .int .i64 0, .int .i64 0] 30)).heap.size = w.heap.size + 1 by simp] at h
  have HG2 : Hid (WholeV ((w.alloc (.cells #[.int .i64 0, .int .i64 0, .int .i64 0, .int .u16 0, .int .u16 0, .int .u16 0, .slice none 0 0, .slice none 0 0, .int .i64 0, .int .i64 0, .int .i64 0, .int .i64 0] 30)).alloc (.cells #[.int .i64 15, .int .i64 0, .int .i64 0, .int .u16 0, .int .u16 0, .int .u16 0, .slice none 0 0, .slice none 0 0, .int .i64 0, .int .i64 0, .int .i64 0, .int .i64 0] 30)) w.heap.size 30 [.int .i64 0, .int .i64 0, .int .i64 0, .int .u16 0, .int .u16 0, .int .u16 0, .slice none 0 0, .slice none 0 0, .int .i64 0, .int .i64 0, .int .i64 0, .int .i64 0]) := by
    have h : WholeV (w.alloc (.cells #[.int .i64 0, .int .i64 0, .int .i64 0, .int .u16 0, .int .u16 0, .int .u16 0, .slice none 0 0, .slice none 0 0, .int .i64 0, .int .i64 0, .int .i64 0, .int .i64 0] 30)) w.heap.size 30 [.int .i64 0, .int .i64 0, .int .i64 0, .int .u16 0, .int .u16 0, .int .u16 0, .slice none 0 0, .slice none 0 0, .int .i64 0, .int .i64 0, .int .i64 0, .int .i64 0] := heap_alloc_new w _
    exact h.below ((Below.refl _ _).alloc (Nat.le_refl _) _) (by simp)
  have HT : Hid (∀ X, Below w.heap.size w X → Row .u8 X X.heap.size (some ⟨b, off + 6, none⟩) t (zs.drop 6)) := fun X hX => ((hr.below hX).more hX.size).tail rfl
  have HC5 : Hid (∀ X, Below w.heap.size w X → X.cell? ⟨b, off + 5, none⟩ = some (.int .u8 u)) := fun X hX => by rw [hX.cell hb, hcell 5 (by omega), hu]
  clear hr hx hcell hkw
  have hl5 : (5 : Int) < (((6 + t) : Nat) : Int) := by omega
  have hl6 : ¬ (((6 + t) : Nat) : Int) < 6 := by omega
  clear h0 hu
  have Hp := Lib.hid hp
  have Hq := Lib.hid hq
  clear hp hq
  have HBad := Lib.hid hbad
  clear hbad
  go_enter Try.func25, Try.ntmps25
  go_wp2_with (first
    | (go_at_call 48; (with_reducible refine (rword_any (some ⟨b, off, none⟩) (6 + t) c zs 1 p _ Hp.out (HR.out.drewN _) HX.out (by omega)).mono ?_); rintro e w' ⟨rfl, d1, rfl⟩)
    | (go_at_call 48; (with_reducible refine (rword_any (some ⟨b, off, none⟩) (6 + t) c zs 1 p _ Hp.out HR.out HX.out (by omega)).mono ?_); rintro e w' ⟨rfl, d1, rfl⟩)
    | (go_at_call 48; (with_reducible refine (rword_any (some ⟨b, off, none⟩) (6 + t) c zs 3 q _ Hq.out (HR.out.drewN _) HX.out (by omega)).mono ?_); rintro e w' ⟨rfl, d3, rfl⟩)
    | (go_at_call 48; (with_reducible refine (rword_any (some ⟨b, off, none⟩) (6 + t) c zs 3 q _ Hq.out HR.out HX.out (by omega)).mono ?_); rintro e w' ⟨rfl, d3, rfl⟩))
  obtain ⟨w3, hw3⟩ : ∃ w3, (((((w.alloc (.cells #[.int .i64 0, .int .i64 0, .int .i64 0, .int .u16 0, .int .u16 0, .int .u16 0, .slice none 0 0, .slice none 0 0, .int .i64 0, .int .i64 0, .int .i64 0, .int .i64 0] 30)).alloc (.cells #[.int .i64 15, .int .i64 0, .int .i64 0, .int .u16 0, .int .u16 0, .int .u16 0, .slice none 0 0, .slice none 0 0, .int .i64 0, .int .i64 0, .int .i64 0, .int .i64 0] 30)).drewN (d1 + d3)).setCell ⟨w.heap.size + 1, 1, none⟩ (.int .i64 p)).setCell ⟨w.heap.size + 1, 2, none⟩ (.int .i64 q)) = w3 := ⟨_, rfl⟩
  have hxa : Below (w.heap.size + 1) ((w.alloc (.cells #[.int .i64 0, .int .i64 0, .int .i64 0, .int .u16 0, .int .u16 0, .int .u16 0, .slice none 0 0, .slice none 0 0, .int .i64 0, .int .i64 0, .int .i64 0, .int .i64 0] 30)).alloc (.cells #[.int .i64 15, .int .i64 0, .int .i64 0, .int .u16 0, .int .u16 0, .int .u16 0, .slice none 0 0, .slice none 0 0, .int .i64 0, .int .i64 0, .int .i64 0, .int .i64 0] 30)) w3 := by rw [← hw3]; exact (((below_drewN (Below.refl (w.heap.size + 1) _) (d1 + d3)).setCell (p := ⟨w.heap.size + 1, 1, none⟩) (Nat.le_refl _) (.int .i64 p)).setCell (p := ⟨w.heap.size + 1, 2, none⟩) (Nat.le_refl _) (.int .i64 q))
  have ha4 : WholeV w3 (w.heap.size + 1) 30 [.int .i64 15, .int .i64 p, .int .i64 q, .int .u16 0, .int .u16 0, .int .u16 0, .slice none 0 0, .slice none 0 0, .int .i64 0, .int .i64 0, .int .i64 0, .int .i64 0] := by rw [← hw3]; exact (((HG4.out.drewN (d1 + d3)).set 1 (.int .i64 p)).set 2 (.int .i64 q))
  have ha2 : WholeV w3 w.heap.size 30 [.int .i64 0, .int .i64 0, .int .i64 0, .int .u16 0, .int .u16 0, .int .u16 0, .slice none 0 0, .slice none 0 0, .int .i64 0, .int .i64 0, .int .i64 0, .int .i64 0] := HG2.out.below hxa (Nat.lt_succ_self _)
  have hab : Below w.heap.size w w3 := HKW.out.trans (hxa.mono (Nat.le_succ _))
  have hz3 : w.heap.size + 2 ≤ w3.heap.size := ha4.lt
  rw [hw3]
  have HA4 := Lib.hid ha4
  have HA2 := Lib.hid ha2
  have HAB := Lib.hid hab
  have HT3 := Lib.hid (HT.out _ hab)
  obtain ⟨hq0, hq1, hq2, hq3, hq4, hq5, hq6, hq7, hq8, hq9, hq10, hq11⟩ := cells12 ha4
  clear hw3 hxa ha4 ha2 hab HG4 HG2 HKW
  have hf6 := HA4.out.frozen 6
  go_region_with (first
      | (go_at_call 49; (with_reducible refine (refunpack_no _ t _ q _ (by omega) (by omega) (by have := HBad.out; omega)).mono ?_); rintro e w' ⟨rfl, rfl⟩))
  all_goals go_wp2
  all_goals
    obtain ⟨w6, hw6⟩ : ∃ X, w3.setCell ⟨w.heap.size + 1, 6, none⟩ (.slice none 0 0) = X := ⟨_, rfl⟩
    have g4 : WholeV w6 (w.heap.size + 1) 30 [.int .i64 15, .int .i64 p, .int .i64 q, .int .u16 0, .int .u16 0, .int .u16 0, .slice none 0 0, .slice none 0 0, .int .i64 0, .int .i64 0, .int .i64 0, .int .i64 0] := by rw [← hw6]; exact HA4.out.set 6 (.slice none 0 0)
    have g2 : WholeV w6 w.heap.size 30 [.int .i64 0, .int .i64 0, .int .i64 0, .int .u16 0, .int .u16 0, .int .u16 0, .slice none 0 0, .slice none 0 0, .int .i64 0, .int .i64 0, .int .i64 0, .int .i64 0] := by rw [← hw6]; exact HA2.out.below ((Below.refl (w.heap.size + 1) _).setCell (p := ⟨w.heap.size + 1, 6, none⟩) (Nat.le_refl _) _) (Nat.lt_succ_self _)
    have gb : Below w.heap.size w w6 := by rw [← hw6]; exact HAB.out.setCell (p := ⟨w.heap.size + 1, 6, none⟩) (Nat.le_succ _) _
    rw [hw6]
    have HG4 := Lib.hid g4
    have HG2 := Lib.hid g2
    have HGB := Lib.hid gb
    have hc5 := HC5.out _ gb
    obtain ⟨ht0, ht1, ht2, ht3, ht4, ht5, ht6, ht7, ht8, ht9, ht10, ht11⟩ := cells12 g4
    clear hw6 g4 g2 gb
    go_quiet (fail)
    go_wp2
    obtain ⟨w7, hw7⟩ : ∃ X, w6.drew.drewN nq = X := ⟨_, rfl⟩
    have a4 : WholeV w7 (w.heap.size + 1) 30 [.int .i64 15, .int .i64 p, .int .i64 q, .int .u16 0, .int .u16 0, .int .u16 0, .slice none 0 0, .slice none 0 0, .int .i64 0, .int .i64 0, .int .i64 0, .int .i64 0] := by rw [← hw7]; exact HG4.out
    have a2 : WholeV w7 w.heap.size 30 [.int .i64 0, .int .i64 0, .int .i64 0, .int .u16 0, .int .u16 0, .int .u16 0, .slice none 0 0, .slice none 0 0, .int .i64 0, .int .i64 0, .int .i64 0, .int .i64 0] := by rw [← hw7]; exact HG2.out
    have ab : Below w.heap.size w w7 := by rw [← hw7]; exact below_drewN HGB.out.drew nq
    rw [hw7]
    have HA4 := Lib.hid a4
    have HA2 := Lib.hid a2
    have HAB := Lib.hid ab
    obtain ⟨hx0, hx1, hx2, hx3, hx4, hx5, hx6, hx7, hx8, hx9, hx10, hx11⟩ := cells12 a4
    have hz7 : w.heap.size + 2 ≤ w7.heap.size := a4.lt
    obtain ⟨hp0, hp1, hp2, hp3, hp4, hp5, hp6, hp7, hp8, hp9, hp10, hp11⟩ := cells12 a2
    obtain ⟨hg0, hg1, hg2, hg3, hg4, hg5, hg6, hg7, hg8, hg9, hg10, hg11⟩ := frozen12 a2
    obtain ⟨w9, hw9, hwh, hbb⟩ := set12 a2 ab (.int .i64 15) (.int .i64 p) (.int .i64 q) (.int .u16 0) (.int .u16 0) (.int .u16 0) (.slice none 0 0) (.slice none 0 0) (.int .i64 0) (.int .i64 0) (.int .i64 0) (.int .i64 0) rfl
    have HE := Lib.hid (cells12 hwh)
    have HBB := Lib.hid hbb
    have HW9 := Lib.hid hw9
    clear hwh hbb hw9 a4 a2 ab hw7 HR HX HG4 HG2 HGB ht0 ht1 ht2 ht3 ht4 ht5 ht6 ht7 ht8 ht9 ht10 ht11 hc5
    first | go_region_with (fail) | skip
    all_goals
      go_wp2
      rw [HW9.out]
      obtain ⟨he0, he1, he2, he3, he4, he5, he6, he7, he8, he9, he10, he11⟩ := HE.out
      exact bodyPost_ret (v := .tuple #[.agg #[.int .i64 15, .int .i64 p, .int .i64 q, .int .u16 0, .int .u16 0, .int .u16 0, .slice none 0 0, .slice none 0 0, .int .i64 0, .int .i64 0, .int .i64 0, .int .i64 0], .bool false]) (by simp [results, Try.results25, go_sem, he0, he1, he2, he3, he4, he5, he6, he7, he8, he9, he10, he11]) rfl ⟨rfl, HBB.out.drew⟩

set_option maxRecDepth 100000 in
set_option maxHeartbeats 1000000 in
theorem rread_15_nob (A : Option Addr) (n c : Nat) (zs : List Int) (w : World) (hr : Row .u8 w w.heap.size A n zs) (hx : Bytes8 zs) (hn : n ≤ 1000) (h1 : 1 ≤ n) (p q u : Int) (t : Nat) (h0 : zs.getD 0 0 = 15) (hl : n = 6 + t) (hc : n ≤ c) (hcap : c = 6) (hu : zs.getD 5 0 = u) (hp : gotW zs n 1 = p) (hq : gotW zs n 3 = q) (hbad : nbI q ≠ (t : Int)) :
    Calls Try.prog 25 #[.slice A n c] w fun e w' => e = .returned (.tuple #[.agg #[.int .i64 15, .int .i64 p, .int .i64 q, .int .u16 0, .int .u16 0, .int .u16 0, .slice none 0 0, .slice none 0 0, .int .i64 0, .int .i64 0, .int .i64 0, .int .i64 0], .bool false]) ∧ Below w.heap.size w w' := by
  obtain ⟨lop, hip⟩ := gotW_bounds hx n 1
  rw [hp] at lop hip
  obtain ⟨loq, hiq⟩ := gotW_bounds hx n 3
  rw [hq] at loq hiq
  obtain ⟨lou, hiu⟩ := hx.at_ 5
  change 0 ≤ zs.getD 5 0 at lou
  change zs.getD 5 0 ≤ 255 at hiu
  rw [hu] at lou hiu
  obtain rfl : t = 0 := by omega
  obtain rfl : n = 6 := by omega
  clear hl
  subst hcap
  obtain ⟨b, off, rfl, hb, hcell⟩ := hr.2 (by omega)
  have hc0 : (w.alloc (.cells #[.int .i64 0, .int .i64 0, .int .i64 0, .int .u16 0, .int .u16 0, .int .u16 0, .slice none 0 0, .slice none 0 0, .int .i64 0, .int .i64 0, .int .i64 0, .int .i64 0] 30)).cell? ⟨b, off, none⟩ = some (.int .u8 15) := by
    rw [World.cell?_alloc_lt w _ ⟨b, off, none⟩ hb]
    have := hcell 0 (by omega)
    rw [Nat.add_zero, h0] at this
    exact this
  have hn0 : (0 : Int) < ((6 : Nat) : Int) := by omega
  have hkw : Below w.heap.size w ((w.alloc (.cells #[.int .i64 0, .int .i64 0, .int .i64 0, .int .u16 0, .int .u16 0, .int .u16 0, .slice none 0 0, .slice none 0 0, .int .i64 0, .int .i64 0, .int .i64 0, .int .i64 0] 30)).alloc (.cells #[.int .i64 15, .int .i64 0, .int .i64 0, .int .u16 0, .int .u16 0, .int .u16 0, .slice none 0 0, .slice none 0 0, .int .i64 0, .int .i64 0, .int .i64 0, .int .i64 0] 30)) := ((Below.refl _ _).alloc (Nat.le_refl _) _).alloc (by simp) _
  have HR := Lib.hid ((hr.below hkw).more hkw.size)
  have HX := Lib.hid hx
  have HKW := Lib.hid hkw
  have HG4 : Hid (WholeV ((w.alloc (.cells #[.int .i64 0, .int .i64 0, .int .i64 0, .int .u16 0, .int .u16 0, .int .u16 0, .slice none 0 0, .slice none 0 0, .int .i64 0, .int .i64 0, .int .i64 0, .int .i64 0] 30)).alloc (.cells #[.int .i64 15, .int .i64 0, .int .i64 0, .int .u16 0, .int .u16 0, .int .u16 0, .slice none 0 0, .slice none 0 0, .int .i64 0, .int .i64 0, .int .i64 0, .int .i64 0] 30)) (w.heap.size + 1) 30 [.int .i64 15, .int .i64 0, .int .i64 0, .int .u16 0, .int .u16 0, .int .u16 0, .slice none 0 0, .slice none 0 0, .int .i64 0, .int .i64 0, .int .i64 0, .int .i64 0]) := by
    have h := heap_alloc_new (w.alloc (.cells #[.int .i64 0, .int .i64 0, .int .i64 0, .int .u16 0, .int .u16 0, .int .u16 0, .slice none 0 0, .slice none 0 0, .int .i64 0, .int .i64 0, .int .i64 0, .int .i64 0] 30)) (.cells #[.int .i64 15, .int .i64 0, .int .i64 0, .int .u16 0, .int .u16 0, .int .u16 0, .slice none 0 0, .slice none 0 0, .int .i64 0, .int .i64 0, .int .i64 0, .int .i64 0] 30)
    rwa [show (w.alloc (.cells #[.int .i64 0, .int .i64 0, .int .i64 0, .int .u16 0, .int .u16 0, .int .u16 0, .slice none 0 0, .slice none 0 0, .int .i64 0, .int .i64 0, .int .i64 0, .int .i64 0] 30)).heap.size = w.heap.size + 1 by simp] at h
  have HG2 : Hid (WholeV ((w.alloc (.cells #[.int .i64 0, .int .i64 0, .int .i64 0, .int .u16 0, .int .u16 0, .int .u16 0, .slice none 0 0, .slice none 0 0, .int .i64 0, .int .i64 0, .int .i64 0, .int .i64 0] 30)).alloc (.cells #[.int .i64 15, .int .i64 0, .int .i64 0, .int .u16 0, .int .u16 0, .int .u16 0, .slice none 0 0, .slice none 0 0, .int .i64 0, .int .i64 0, .int .i64 0, .int .i64 0] 30)) w.heap.size 30 [.int .i64 0, .int .i64 0, .int .i64 0, .int .u16 0, .int .u16 0, .int .u16 0, .slice none 0 0, .slice none 0 0, .int .i64 0, .int .i64 0, .int .i64 0, .int .i64 0]) := by
    have h : WholeV (w.alloc (.cells #[.int .i64 0, .int .i64 0, .int .i64 0, .int .u16 0, .int .u16 0, .int .u16 0, .slice none 0 0, .slice none 0 0, .int .i64 0, .int .i64 0, .int .i64 0, .int .i64 0] 30)) w.heap.size 30 [.int .i64 0, .int .i64 0, .int .i64 0, .int .u16 0, .int .u16 0, .int .u16 0, .slice none 0 0, .slice none 0 0, .int .i64 0, .int .i64 0, .int .i64 0, .int .i64 0] := heap_alloc_new w _
    exact h.below ((Below.refl _ _).alloc (Nat.le_refl _) _) (by simp)
  have HT : Hid (∀ X, Below w.heap.size w X → Row .u8 X X.heap.size (some ⟨b, off, none⟩) 0 (zs.drop 6)) := fun X hX => row_none hr.1
  have HC5 : Hid (∀ X, Below w.heap.size w X → X.cell? ⟨b, off + 5, none⟩ = some (.int .u8 u)) := fun X hX => by rw [hX.cell hb, hcell 5 (by omega), hu]
  clear hr hx hcell hkw
  clear h0 hu
  have Hp := Lib.hid hp
  have Hq := Lib.hid hq
  clear hp hq
  have HBad := Lib.hid hbad
  clear hbad
  go_enter Try.func25, Try.ntmps25
  go_wp2_with (first
    | (go_at_call 48; (with_reducible refine (rword_any (some ⟨b, off, none⟩) 6 6 zs 1 p _ Hp.out (HR.out.drewN _) HX.out (by omega)).mono ?_); rintro e w' ⟨rfl, d1, rfl⟩)
    | (go_at_call 48; (with_reducible refine (rword_any (some ⟨b, off, none⟩) 6 6 zs 1 p _ Hp.out HR.out HX.out (by omega)).mono ?_); rintro e w' ⟨rfl, d1, rfl⟩)
    | (go_at_call 48; (with_reducible refine (rword_any (some ⟨b, off, none⟩) 6 6 zs 3 q _ Hq.out (HR.out.drewN _) HX.out (by omega)).mono ?_); rintro e w' ⟨rfl, d3, rfl⟩)
    | (go_at_call 48; (with_reducible refine (rword_any (some ⟨b, off, none⟩) 6 6 zs 3 q _ Hq.out HR.out HX.out (by omega)).mono ?_); rintro e w' ⟨rfl, d3, rfl⟩))
  obtain ⟨w3, hw3⟩ : ∃ w3, (((((w.alloc (.cells #[.int .i64 0, .int .i64 0, .int .i64 0, .int .u16 0, .int .u16 0, .int .u16 0, .slice none 0 0, .slice none 0 0, .int .i64 0, .int .i64 0, .int .i64 0, .int .i64 0] 30)).alloc (.cells #[.int .i64 15, .int .i64 0, .int .i64 0, .int .u16 0, .int .u16 0, .int .u16 0, .slice none 0 0, .slice none 0 0, .int .i64 0, .int .i64 0, .int .i64 0, .int .i64 0] 30)).drewN (d1 + d3)).setCell ⟨w.heap.size + 1, 1, none⟩ (.int .i64 p)).setCell ⟨w.heap.size + 1, 2, none⟩ (.int .i64 q)) = w3 := ⟨_, rfl⟩
  have hxa : Below (w.heap.size + 1) ((w.alloc (.cells #[.int .i64 0, .int .i64 0, .int .i64 0, .int .u16 0, .int .u16 0, .int .u16 0, .slice none 0 0, .slice none 0 0, .int .i64 0, .int .i64 0, .int .i64 0, .int .i64 0] 30)).alloc (.cells #[.int .i64 15, .int .i64 0, .int .i64 0, .int .u16 0, .int .u16 0, .int .u16 0, .slice none 0 0, .slice none 0 0, .int .i64 0, .int .i64 0, .int .i64 0, .int .i64 0] 30)) w3 := by rw [← hw3]; exact (((below_drewN (Below.refl (w.heap.size + 1) _) (d1 + d3)).setCell (p := ⟨w.heap.size + 1, 1, none⟩) (Nat.le_refl _) (.int .i64 p)).setCell (p := ⟨w.heap.size + 1, 2, none⟩) (Nat.le_refl _) (.int .i64 q))
  have ha4 : WholeV w3 (w.heap.size + 1) 30 [.int .i64 15, .int .i64 p, .int .i64 q, .int .u16 0, .int .u16 0, .int .u16 0, .slice none 0 0, .slice none 0 0, .int .i64 0, .int .i64 0, .int .i64 0, .int .i64 0] := by rw [← hw3]; exact (((HG4.out.drewN (d1 + d3)).set 1 (.int .i64 p)).set 2 (.int .i64 q))
  have ha2 : WholeV w3 w.heap.size 30 [.int .i64 0, .int .i64 0, .int .i64 0, .int .u16 0, .int .u16 0, .int .u16 0, .slice none 0 0, .slice none 0 0, .int .i64 0, .int .i64 0, .int .i64 0, .int .i64 0] := HG2.out.below hxa (Nat.lt_succ_self _)
  have hab : Below w.heap.size w w3 := HKW.out.trans (hxa.mono (Nat.le_succ _))
  have hz3 : w.heap.size + 2 ≤ w3.heap.size := ha4.lt
  rw [hw3]
  have HA4 := Lib.hid ha4
  have HA2 := Lib.hid ha2
  have HAB := Lib.hid hab
  have HT3 := Lib.hid (HT.out _ hab)
  obtain ⟨hq0, hq1, hq2, hq3, hq4, hq5, hq6, hq7, hq8, hq9, hq10, hq11⟩ := cells12 ha4
  clear hw3 hxa ha4 ha2 hab HG4 HG2 HKW
  have hf6 := HA4.out.frozen 6
  go_region_with (first
      | (go_at_call 49; (with_reducible refine (refunpack_no _ 0 _ q _ (by omega) (by omega) (by have := HBad.out; omega)).mono ?_); rintro e w' ⟨rfl, rfl⟩))
  all_goals go_wp2
  all_goals
    obtain ⟨w6, hw6⟩ : ∃ X, w3.setCell ⟨w.heap.size + 1, 6, none⟩ (.slice none 0 0) = X := ⟨_, rfl⟩
    have g4 : WholeV w6 (w.heap.size + 1) 30 [.int .i64 15, .int .i64 p, .int .i64 q, .int .u16 0, .int .u16 0, .int .u16 0, .slice none 0 0, .slice none 0 0, .int .i64 0, .int .i64 0, .int .i64 0, .int .i64 0] := by rw [← hw6]; exact HA4.out.set 6 (.slice none 0 0)
    have g2 : WholeV w6 w.heap.size 30 [.int .i64 0, .int .i64 0, .int .i64 0, .int .u16 0, .int .u16 0, .int .u16 0, .slice none 0 0, .slice none 0 0, .int .i64 0, .int .i64 0, .int .i64 0, .int .i64 0] := by rw [← hw6]; exact HA2.out.below ((Below.refl (w.heap.size + 1) _).setCell (p := ⟨w.heap.size + 1, 6, none⟩) (Nat.le_refl _) _) (Nat.lt_succ_self _)
    have gb : Below w.heap.size w w6 := by rw [← hw6]; exact HAB.out.setCell (p := ⟨w.heap.size + 1, 6, none⟩) (Nat.le_succ _) _
    rw [hw6]
    have HG4 := Lib.hid g4
    have HG2 := Lib.hid g2
    have HGB := Lib.hid gb
    have hc5 := HC5.out _ gb
    obtain ⟨ht0, ht1, ht2, ht3, ht4, ht5, ht6, ht7, ht8, ht9, ht10, ht11⟩ := cells12 g4
    clear hw6 g4 g2 gb
    go_quiet (fail)
    go_wp2
    obtain ⟨w7, hw7⟩ : ∃ X, w6.drew.drewN nq = X := ⟨_, rfl⟩
    have a4 : WholeV w7 (w.heap.size + 1) 30 [.int .i64 15, .int .i64 p, .int .i64 q, .int .u16 0, .int .u16 0, .int .u16 0, .slice none 0 0, .slice none 0 0, .int .i64 0, .int .i64 0, .int .i64 0, .int .i64 0] := by rw [← hw7]; exact HG4.out
    have a2 : WholeV w7 w.heap.size 30 [.int .i64 0, .int .i64 0, .int .i64 0, .int .u16 0, .int .u16 0, .int .u16 0, .slice none 0 0, .slice none 0 0, .int .i64 0, .int .i64 0, .int .i64 0, .int .i64 0] := by rw [← hw7]; exact HG2.out
    have ab : Below w.heap.size w w7 := by rw [← hw7]; exact below_drewN HGB.out.drew nq
    rw [hw7]
    have HA4 := Lib.hid a4
    have HA2 := Lib.hid a2
    have HAB := Lib.hid ab
    obtain ⟨hx0, hx1, hx2, hx3, hx4, hx5, hx6, hx7, hx8, hx9, hx10, hx11⟩ := cells12 a4
    have hz7 : w.heap.size + 2 ≤ w7.heap.size := a4.lt
    obtain ⟨hp0, hp1, hp2, hp3, hp4, hp5, hp6, hp7, hp8, hp9, hp10, hp11⟩ := cells12 a2
    obtain ⟨hg0, hg1, hg2, hg3, hg4, hg5, hg6, hg7, hg8, hg9, hg10, hg11⟩ := frozen12 a2
    obtain ⟨w9, hw9, hwh, hbb⟩ := set12 a2 ab (.int .i64 15) (.int .i64 p) (.int .i64 q) (.int .u16 0) (.int .u16 0) (.int .u16 0) (.slice none 0 0) (.slice none 0 0) (.int .i64 0) (.int .i64 0) (.int .i64 0) (.int .i64 0) rfl
    have HE := Lib.hid (cells12 hwh)
    have HBB := Lib.hid hbb
    have HW9 := Lib.hid hw9
    clear hwh hbb hw9 a4 a2 ab hw7 HR HX HG4 HG2 HGB ht0 ht1 ht2 ht3 ht4 ht5 ht6 ht7 ht8 ht9 ht10 ht11 hc5
    first | go_region_with (fail) | skip
    all_goals
      go_wp2
      rw [HW9.out]
      obtain ⟨he0, he1, he2, he3, he4, he5, he6, he7, he8, he9, he10, he11⟩ := HE.out
      exact bodyPost_ret (v := .tuple #[.agg #[.int .i64 15, .int .i64 p, .int .i64 q, .int .u16 0, .int .u16 0, .int .u16 0, .slice none 0 0, .slice none 0 0, .int .i64 0, .int .i64 0, .int .i64 0, .int .i64 0], .bool false]) (by simp [results, Try.results25, go_sem, he0, he1, he2, he3, he4, he5, he6, he7, he8, he9, he10, he11]) rfl ⟨rfl, HBB.out.drew⟩

set_option maxRecDepth 100000 in
set_option maxHeartbeats 1000000 in
theorem rread_15_bytea (A : Option Addr) (n c : Nat) (zs : List Int) (w : World) (hr : Row .u8 w w.heap.size A n zs) (hx : Bytes8 zs) (hn : n ≤ 1000) (h1 : 1 ≤ n) (p q u : Int) (t : Nat) (h0 : zs.getD 0 0 = 15) (hl : n = 6 + t) (hc : n ≤ c) (hcap : ¬ c = 6) (hu : zs.getD 5 0 = u) (hp : gotW zs n 1 = p) (hq : gotW zs n 3 = q) (k : Nat) (hk : q = (k : Int)) (hkn : (t : Int) = ((nb k : Nat) : Int)) (hby : ¬ u = ((nb k : Nat) : Int)) :
    Calls Try.prog 25 #[.slice A n c] w fun e w' => ∃ G g, e = .returned (.tuple #[.agg #[.int .i64 15, .int .i64 p, .int .i64 q, .int .u16 0, .int .u16 0, .int .u16 0, .slice G k g, .slice none 0 0, .int .i64 0, .int .i64 0, .int .i64 0, .int .i64 0], .bool false]) ∧ Below w.heap.size w w' := by
  obtain ⟨lop, hip⟩ := gotW_bounds hx n 1
  rw [hp] at lop hip
  obtain ⟨loq, hiq⟩ := gotW_bounds hx n 3
  rw [hq] at loq hiq
  obtain ⟨lou, hiu⟩ := hx.at_ 5
  change 0 ≤ zs.getD 5 0 at lou
  change zs.getD 5 0 ≤ 255 at hiu
  rw [hu] at lou hiu
  subst hl
  have hct : 6 < c := by omega
  obtain ⟨b, off, rfl, hb, hcell⟩ := hr.2 (by omega)
  have hc0 : (w.alloc (.cells #[.int .i64 0, .int .i64 0, .int .i64 0, .int .u16 0, .int .u16 0, .int .u16 0, .slice none 0 0, .slice none 0 0, .int .i64 0, .int .i64 0, .int .i64 0, .int .i64 0] 30)).cell? ⟨b, off, none⟩ = some (.int .u8 15) := by
    rw [World.cell?_alloc_lt w _ ⟨b, off, none⟩ hb]
    have := hcell 0 (by omega)
    rw [Nat.add_zero, h0] at this
    exact this
  have hn0 : (0 : Int) < (((6 + t) : Nat) : Int) := by omega
  have hkw : Below w.heap.size w ((w.alloc (.cells #[.int .i64 0, .int .i64 0, .int .i64 0, .int .u16 0, .int .u16 0, .int .u16 0, .slice none 0 0, .slice none 0 0, .int .i64 0, .int .i64 0, .int .i64 0, .int .i64 0] 30)).alloc (.cells #[.int .i64 15, .int .i64 0, .int .i64 0, .int .u16 0, .int .u16 0, .int .u16 0, .slice none 0 0, .slice none 0 0, .int .i64 0, .int .i64 0, .int .i64 0, .int .i64 0] 30)) := ((Below.refl _ _).alloc (Nat.le_refl _) _).alloc (by simp) _
  have HR := Lib.hid ((hr.below hkw).more hkw.size)
  have HX := Lib.hid hx
  have HKW := Lib.hid hkw
  have HG4 : Hid (WholeV ((w.alloc (.cells #[.int .i64 0, .int .i64 0, .int .i64 0, .int .u16 0, .int .u16 0, .int .u16 0, .slice none 0 0, .slice none 0 0, .int .i64 0, .int .i64 0, .int .i64 0, .int .i64 0] 30)).alloc (.cells #[.int .i64 15, .int .i64 0, .int .i64 0, .int .u16 0, .int .u16 0, .int .u16 0, .slice none 0 0, .slice none 0 0, .int .i64 0, .int .i64 0, .int .i64 0, .int .i64 0] 30)) (w.heap.size + 1) 30 [.int .i64 15, .int .i64 0, .int .i64 0, .int .u16 0, .int .u16 0, .int .u16 0, .slice none 0 0, .slice none 0 0, .int .i64 0, .int .i64 0, .int .i64 0, .int .i64 0]) := by
    have h := heap_alloc_new (w.alloc (.cells #[.int .i64 0, .int .i64 0, .int .i64 0, .int .u16 0, .int .u16 0, .int .u16 0, .slice none 0 0, .slice none 0 0, .int .i64 0, .int .i64 0, .int .i64 0, .int .i64 0] 30)) (.cells #[.int .i64 15, .int .i64 0, .int .i64 0, .int .u16 0, .int .u16 0, .int .u16 0, .slice none 0 0, .slice none 0 0, .int .i64 0, .int .i64 0, .int .i64 0, .int .i64 0] 30)
    rwa [show (w.alloc (.cells #[.int .i64 0, .int .i64 0, .int .i64 0, .int .u16 0, .int .u16 0, .int .u16 0, .slice none 0 0, .slice none 0 0, .int .i64 0, .int .i64 0, .int .i64 0, .int .i64 0] 30)).heap.size = w.heap.size + 1 by simp] at h
  have HG2 : Hid (WholeV ((w.alloc (.cells #[.int .i64 0, .int .i64 0, .int .i64 0, .int .u16 0, .int .u16 0, .int .u16 0, .slice none 0 0, .slice none 0 0, .int .i64 0, .int .i64 0, .int .i64 0, .int .i64 0] 30)).alloc (.cells #[.int .i64 15, .int .i64 0, .int .i64 0, .int .u16 0, .int .u16 0, .int .u16 0, .slice none 0 0, .slice none 0 0, .int .i64 0, .int .i64 0, .int .i64 0, .int .i64 0] 30)) w.heap.size 30 [.int .i64 0, .int .i64 0, .int .i64 0, .int .u16 0, .int .u16 0, .int .u16 0, .slice none 0 0, .slice none 0 0, .int .i64 0, .int .i64 0, .int .i64 0, .int .i64 0]) := by
    have h : WholeV (w.alloc (.cells #[.int .i64 0, .int .i64 0, .int .i64 0, .int .u16 0, .int .u16 0, .int .u16 0, .slice none 0 0, .slice none 0 0, .int .i64 0, .int .i64 0, .int .i64 0, .int .i64 0] 30)) w.heap.size 30 [.int .i64 0, .int .i64 0, .int .i64 0, .int .u16 0, .int .u16 0, .int .u16 0, .slice none 0 0, .slice none 0 0, .int .i64 0, .int .i64 0, .int .i64 0, .int .i64 0] := heap_alloc_new w _
    exact h.below ((Below.refl _ _).alloc (Nat.le_refl _) _) (by simp)
  have HT : Hid (∀ X, Below w.heap.size w X → Row .u8 X X.heap.size (some ⟨b, off + 6, none⟩) t (zs.drop 6)) := fun X hX => ((hr.below hX).more hX.size).tail rfl
  have HC5 : Hid (∀ X, Below w.heap.size w X → X.cell? ⟨b, off + 5, none⟩ = some (.int .u8 u)) := fun X hX => by rw [hX.cell hb, hcell 5 (by omega), hu]
  clear hr hx hcell hkw
  have hl5 : (5 : Int) < (((6 + t) : Nat) : Int) := by omega
  have hl6 : ¬ (((6 + t) : Nat) : Int) < 6 := by omega
  clear h0 hu
  have Hp := Lib.hid hp
  have Hq := Lib.hid hq
  clear hp hq
  have HK := Lib.hid hk
  have HKN := Lib.hid hkn
  have hkb : k ≤ 8000 := by unfold nb at hkn; omega
  have hnk : 0 ≤ ((nb k : Nat) : Int) := by omega
  clear hk hkn
  have hbb0 : (u == ((nb k : Nat) : Int)) = false := by simpa using hby
  clear hby
  go_enter Try.func25, Try.ntmps25
  go_wp2_with (first
    | (go_at_call 48; (with_reducible refine (rword_any (some ⟨b, off, none⟩) (6 + t) c zs 1 p _ Hp.out (HR.out.drewN _) HX.out (by omega)).mono ?_); rintro e w' ⟨rfl, d1, rfl⟩)
    | (go_at_call 48; (with_reducible refine (rword_any (some ⟨b, off, none⟩) (6 + t) c zs 1 p _ Hp.out HR.out HX.out (by omega)).mono ?_); rintro e w' ⟨rfl, d1, rfl⟩)
    | (go_at_call 48; (with_reducible refine (rword_any (some ⟨b, off, none⟩) (6 + t) c zs 3 q _ Hq.out (HR.out.drewN _) HX.out (by omega)).mono ?_); rintro e w' ⟨rfl, d3, rfl⟩)
    | (go_at_call 48; (with_reducible refine (rword_any (some ⟨b, off, none⟩) (6 + t) c zs 3 q _ Hq.out HR.out HX.out (by omega)).mono ?_); rintro e w' ⟨rfl, d3, rfl⟩))
  obtain ⟨w3, hw3⟩ : ∃ w3, (((((w.alloc (.cells #[.int .i64 0, .int .i64 0, .int .i64 0, .int .u16 0, .int .u16 0, .int .u16 0, .slice none 0 0, .slice none 0 0, .int .i64 0, .int .i64 0, .int .i64 0, .int .i64 0] 30)).alloc (.cells #[.int .i64 15, .int .i64 0, .int .i64 0, .int .u16 0, .int .u16 0, .int .u16 0, .slice none 0 0, .slice none 0 0, .int .i64 0, .int .i64 0, .int .i64 0, .int .i64 0] 30)).drewN (d1 + d3)).setCell ⟨w.heap.size + 1, 1, none⟩ (.int .i64 p)).setCell ⟨w.heap.size + 1, 2, none⟩ (.int .i64 q)) = w3 := ⟨_, rfl⟩
  have hxa : Below (w.heap.size + 1) ((w.alloc (.cells #[.int .i64 0, .int .i64 0, .int .i64 0, .int .u16 0, .int .u16 0, .int .u16 0, .slice none 0 0, .slice none 0 0, .int .i64 0, .int .i64 0, .int .i64 0, .int .i64 0] 30)).alloc (.cells #[.int .i64 15, .int .i64 0, .int .i64 0, .int .u16 0, .int .u16 0, .int .u16 0, .slice none 0 0, .slice none 0 0, .int .i64 0, .int .i64 0, .int .i64 0, .int .i64 0] 30)) w3 := by rw [← hw3]; exact (((below_drewN (Below.refl (w.heap.size + 1) _) (d1 + d3)).setCell (p := ⟨w.heap.size + 1, 1, none⟩) (Nat.le_refl _) (.int .i64 p)).setCell (p := ⟨w.heap.size + 1, 2, none⟩) (Nat.le_refl _) (.int .i64 q))
  have ha4 : WholeV w3 (w.heap.size + 1) 30 [.int .i64 15, .int .i64 p, .int .i64 q, .int .u16 0, .int .u16 0, .int .u16 0, .slice none 0 0, .slice none 0 0, .int .i64 0, .int .i64 0, .int .i64 0, .int .i64 0] := by rw [← hw3]; exact (((HG4.out.drewN (d1 + d3)).set 1 (.int .i64 p)).set 2 (.int .i64 q))
  have ha2 : WholeV w3 w.heap.size 30 [.int .i64 0, .int .i64 0, .int .i64 0, .int .u16 0, .int .u16 0, .int .u16 0, .slice none 0 0, .slice none 0 0, .int .i64 0, .int .i64 0, .int .i64 0, .int .i64 0] := HG2.out.below hxa (Nat.lt_succ_self _)
  have hab : Below w.heap.size w w3 := HKW.out.trans (hxa.mono (Nat.le_succ _))
  have hz3 : w.heap.size + 2 ≤ w3.heap.size := ha4.lt
  rw [hw3]
  have HA4 := Lib.hid ha4
  have HA2 := Lib.hid ha2
  have HAB := Lib.hid hab
  have HT3 := Lib.hid (HT.out _ hab)
  obtain ⟨hq0, hq1, hq2, hq3, hq4, hq5, hq6, hq7, hq8, hq9, hq10, hq11⟩ := cells12 ha4
  clear hw3 hxa ha4 ha2 hab HG4 HG2 HKW
  go_region_with (first
      | (go_at_call 49
         (with_reducible refine (refunpack_at _ t _ k q (zs.drop 6) _ (by have := HKN.out; omega) HK.out (HT3.out.drewN 1) (HX.out.drop 6) (by omega)).mono ?_)
         rintro e w5 ⟨G, g, rfl, ho5, hb5⟩
         have hb5' : Below w3.heap.size w3 w5 := below_from (d := 1) hb5
         have h1 := HA4.out.below hb5' (show w.heap.size + 1 < w3.heap.size by omega)
         have h0 := HA2.out.below hb5' (show w.heap.size < w3.heap.size by omega)
         have hb5w : Below w.heap.size w w5 := HAB.out.trans (hb5'.mono HAB.out.size)
         have HB5 := Lib.hid hb5w
         obtain ⟨hs0, hs1, hs2, hs3, hs4, hs5, hs6, hs7, hs8, hs9, hs10, hs11⟩ := cells12 h1
         have hf6 := h1.frozen 6
         have hz5 : w.heap.size + 2 ≤ w5.heap.size := h1.lt
         have HH1 := Lib.hid h1
         have HH0 := Lib.hid h0
         have HO5 : Hid (w5.ownsRow w3.heap.size 4 1 (.slice G k g) k ((unb (zs.drop 6) k).map Value.bool)) := own_mono ho5 (Nat.le_refl _)
         clear h1 h0 hb5 hb5' hb5w ho5))
  all_goals go_wp2
  all_goals
    obtain ⟨w6, hw6⟩ : ∃ X, w5.setCell ⟨w.heap.size + 1, 6, none⟩ (.slice G k g) = X := ⟨_, rfl⟩
    have g4 : WholeV w6 (w.heap.size + 1) 30 [.int .i64 15, .int .i64 p, .int .i64 q, .int .u16 0, .int .u16 0, .int .u16 0, .slice G k g, .slice none 0 0, .int .i64 0, .int .i64 0, .int .i64 0, .int .i64 0] := by rw [← hw6]; exact HH1.out.set 6 (.slice G k g)
    have g2 : WholeV w6 w.heap.size 30 [.int .i64 0, .int .i64 0, .int .i64 0, .int .u16 0, .int .u16 0, .int .u16 0, .slice none 0 0, .slice none 0 0, .int .i64 0, .int .i64 0, .int .i64 0, .int .i64 0] := by rw [← hw6]; exact HH0.out.below ((Below.refl (w.heap.size + 1) _).setCell (p := ⟨w.heap.size + 1, 6, none⟩) (Nat.le_refl _) _) (Nat.lt_succ_self _)
    have gb : Below w.heap.size w w6 := by rw [← hw6]; exact HB5.out.setCell (p := ⟨w.heap.size + 1, 6, none⟩) (Nat.le_succ _) _
    have go : w6.ownsRow w3.heap.size 4 1 (.slice G k g) k ((unb (zs.drop 6) k).map Value.bool) := by rw [← hw6]; exact own_far HO5.out ⟨w.heap.size + 1, 6, none⟩ (show w.heap.size + 1 < w3.heap.size by omega) _
    rw [hw6]
    have HG4 := Lib.hid g4
    have HG2 := Lib.hid g2
    have HGB := Lib.hid gb
    have HGO := Lib.hid go
    have hc5 := HC5.out _ gb
    obtain ⟨ht0, ht1, ht2, ht3, ht4, ht5, ht6, ht7, ht8, ht9, ht10, ht11⟩ := cells12 g4
    clear hw6 g4 g2 gb go
    have HBq : Hid (∀ W : World, Calls Try.prog 50 #[.int .i64 q] W fun e w' => e = .returned (.int .i64 ((nb k : Nat) : Int)) ∧ W = w') := fun W => by rw [HK.out]; exact refbytes_nat k W (by omega)
    go_quiet ((go_at_call 50; exact quiet_still (HBq.out _)))
    go_wp2
    obtain ⟨w7, hw7⟩ : ∃ X, w6.drewN nq = X := ⟨_, rfl⟩
    have a4 : WholeV w7 (w.heap.size + 1) 30 [.int .i64 15, .int .i64 p, .int .i64 q, .int .u16 0, .int .u16 0, .int .u16 0, .slice G k g, .slice none 0 0, .int .i64 0, .int .i64 0, .int .i64 0, .int .i64 0] := by rw [← hw7]; exact HG4.out
    have a2 : WholeV w7 w.heap.size 30 [.int .i64 0, .int .i64 0, .int .i64 0, .int .u16 0, .int .u16 0, .int .u16 0, .slice none 0 0, .slice none 0 0, .int .i64 0, .int .i64 0, .int .i64 0, .int .i64 0] := by rw [← hw7]; exact HG2.out
    have ab : Below w.heap.size w w7 := by rw [← hw7]; exact below_drewN HGB.out nq
    have ao : w7.ownsRow w3.heap.size 4 1 (.slice G k g) k ((unb (zs.drop 6) k).map Value.bool) := by rw [← hw7]; exact HGO.out
    rw [hw7]
    have HA4 := Lib.hid a4
    have HA2 := Lib.hid a2
    have HAB := Lib.hid ab
    have HAO := Lib.hid ao
    obtain ⟨hx0, hx1, hx2, hx3, hx4, hx5, hx6, hx7, hx8, hx9, hx10, hx11⟩ := cells12 a4
    have hz7 : w.heap.size + 2 ≤ w7.heap.size := a4.lt
    obtain ⟨hp0, hp1, hp2, hp3, hp4, hp5, hp6, hp7, hp8, hp9, hp10, hp11⟩ := cells12 a2
    obtain ⟨hg0, hg1, hg2, hg3, hg4, hg5, hg6, hg7, hg8, hg9, hg10, hg11⟩ := frozen12 a2
    obtain ⟨w9, hw9, hwh, hbb⟩ := set12 a2 ab (.int .i64 15) (.int .i64 p) (.int .i64 q) (.int .u16 0) (.int .u16 0) (.int .u16 0) (.slice G k g) (.slice none 0 0) (.int .i64 0) (.int .i64 0) (.int .i64 0) (.int .i64 0) rfl
    have HE := Lib.hid (cells12 hwh)
    have HBB := Lib.hid hbb
    have HW9 := Lib.hid hw9
    clear hwh hbb hw9 a4 a2 ab hw7 HR HX HG4 HG2 HGB ht0 ht1 ht2 ht3 ht4 ht5 ht6 ht7 ht8 ht9 ht10 ht11 hc5 ao
    first | go_region_with (fail) | skip
    all_goals
      go_wp2
      rw [HW9.out]
      obtain ⟨he0, he1, he2, he3, he4, he5, he6, he7, he8, he9, he10, he11⟩ := HE.out
      exact bodyPost_ret (v := .tuple #[.agg #[.int .i64 15, .int .i64 p, .int .i64 q, .int .u16 0, .int .u16 0, .int .u16 0, .slice G k g, .slice none 0 0, .int .i64 0, .int .i64 0, .int .i64 0, .int .i64 0], .bool false]) (by simp [results, Try.results25, go_sem, he0, he1, he2, he3, he4, he5, he6, he7, he8, he9, he10, he11]) rfl ⟨_, _, rfl, HBB.out.drew⟩

set_option maxRecDepth 100000 in
set_option maxHeartbeats 1000000 in
theorem rread_15_byteb (A : Option Addr) (n c : Nat) (zs : List Int) (w : World) (hr : Row .u8 w w.heap.size A n zs) (hx : Bytes8 zs) (hn : n ≤ 1000) (h1 : 1 ≤ n) (p q u : Int) (t : Nat) (h0 : zs.getD 0 0 = 15) (hl : n = 6 + t) (hc : n ≤ c) (hcap : c = 6) (hu : zs.getD 5 0 = u) (hp : gotW zs n 1 = p) (hq : gotW zs n 3 = q) (k : Nat) (hk : q = (k : Int)) (hkn : (t : Int) = ((nb k : Nat) : Int)) (hby : ¬ u = ((nb k : Nat) : Int)) :
    Calls Try.prog 25 #[.slice A n c] w fun e w' => ∃ G g, e = .returned (.tuple #[.agg #[.int .i64 15, .int .i64 p, .int .i64 q, .int .u16 0, .int .u16 0, .int .u16 0, .slice G k g, .slice none 0 0, .int .i64 0, .int .i64 0, .int .i64 0, .int .i64 0], .bool false]) ∧ Below w.heap.size w w' := by
  obtain ⟨lop, hip⟩ := gotW_bounds hx n 1
  rw [hp] at lop hip
  obtain ⟨loq, hiq⟩ := gotW_bounds hx n 3
  rw [hq] at loq hiq
  obtain ⟨lou, hiu⟩ := hx.at_ 5
  change 0 ≤ zs.getD 5 0 at lou
  change zs.getD 5 0 ≤ 255 at hiu
  rw [hu] at lou hiu
  obtain rfl : t = 0 := by omega
  obtain rfl : n = 6 := by omega
  clear hl
  subst hcap
  obtain ⟨b, off, rfl, hb, hcell⟩ := hr.2 (by omega)
  have hc0 : (w.alloc (.cells #[.int .i64 0, .int .i64 0, .int .i64 0, .int .u16 0, .int .u16 0, .int .u16 0, .slice none 0 0, .slice none 0 0, .int .i64 0, .int .i64 0, .int .i64 0, .int .i64 0] 30)).cell? ⟨b, off, none⟩ = some (.int .u8 15) := by
    rw [World.cell?_alloc_lt w _ ⟨b, off, none⟩ hb]
    have := hcell 0 (by omega)
    rw [Nat.add_zero, h0] at this
    exact this
  have hn0 : (0 : Int) < ((6 : Nat) : Int) := by omega
  have hkw : Below w.heap.size w ((w.alloc (.cells #[.int .i64 0, .int .i64 0, .int .i64 0, .int .u16 0, .int .u16 0, .int .u16 0, .slice none 0 0, .slice none 0 0, .int .i64 0, .int .i64 0, .int .i64 0, .int .i64 0] 30)).alloc (.cells #[.int .i64 15, .int .i64 0, .int .i64 0, .int .u16 0, .int .u16 0, .int .u16 0, .slice none 0 0, .slice none 0 0, .int .i64 0, .int .i64 0, .int .i64 0, .int .i64 0] 30)) := ((Below.refl _ _).alloc (Nat.le_refl _) _).alloc (by simp) _
  have HR := Lib.hid ((hr.below hkw).more hkw.size)
  have HX := Lib.hid hx
  have HKW := Lib.hid hkw
  have HG4 : Hid (WholeV ((w.alloc (.cells #[.int .i64 0, .int .i64 0, .int .i64 0, .int .u16 0, .int .u16 0, .int .u16 0, .slice none 0 0, .slice none 0 0, .int .i64 0, .int .i64 0, .int .i64 0, .int .i64 0] 30)).alloc (.cells #[.int .i64 15, .int .i64 0, .int .i64 0, .int .u16 0, .int .u16 0, .int .u16 0, .slice none 0 0, .slice none 0 0, .int .i64 0, .int .i64 0, .int .i64 0, .int .i64 0] 30)) (w.heap.size + 1) 30 [.int .i64 15, .int .i64 0, .int .i64 0, .int .u16 0, .int .u16 0, .int .u16 0, .slice none 0 0, .slice none 0 0, .int .i64 0, .int .i64 0, .int .i64 0, .int .i64 0]) := by
    have h := heap_alloc_new (w.alloc (.cells #[.int .i64 0, .int .i64 0, .int .i64 0, .int .u16 0, .int .u16 0, .int .u16 0, .slice none 0 0, .slice none 0 0, .int .i64 0, .int .i64 0, .int .i64 0, .int .i64 0] 30)) (.cells #[.int .i64 15, .int .i64 0, .int .i64 0, .int .u16 0, .int .u16 0, .int .u16 0, .slice none 0 0, .slice none 0 0, .int .i64 0, .int .i64 0, .int .i64 0, .int .i64 0] 30)
    rwa [show (w.alloc (.cells #[.int .i64 0, .int .i64 0, .int .i64 0, .int .u16 0, .int .u16 0, .int .u16 0, .slice none 0 0, .slice none 0 0, .int .i64 0, .int .i64 0, .int .i64 0, .int .i64 0] 30)).heap.size = w.heap.size + 1 by simp] at h
  have HG2 : Hid (WholeV ((w.alloc (.cells #[.int .i64 0, .int .i64 0, .int .i64 0, .int .u16 0, .int .u16 0, .int .u16 0, .slice none 0 0, .slice none 0 0, .int .i64 0, .int .i64 0, .int .i64 0, .int .i64 0] 30)).alloc (.cells #[.int .i64 15, .int .i64 0, .int .i64 0, .int .u16 0, .int .u16 0, .int .u16 0, .slice none 0 0, .slice none 0 0, .int .i64 0, .int .i64 0, .int .i64 0, .int .i64 0] 30)) w.heap.size 30 [.int .i64 0, .int .i64 0, .int .i64 0, .int .u16 0, .int .u16 0, .int .u16 0, .slice none 0 0, .slice none 0 0, .int .i64 0, .int .i64 0, .int .i64 0, .int .i64 0]) := by
    have h : WholeV (w.alloc (.cells #[.int .i64 0, .int .i64 0, .int .i64 0, .int .u16 0, .int .u16 0, .int .u16 0, .slice none 0 0, .slice none 0 0, .int .i64 0, .int .i64 0, .int .i64 0, .int .i64 0] 30)) w.heap.size 30 [.int .i64 0, .int .i64 0, .int .i64 0, .int .u16 0, .int .u16 0, .int .u16 0, .slice none 0 0, .slice none 0 0, .int .i64 0, .int .i64 0, .int .i64 0, .int .i64 0] := heap_alloc_new w _
    exact h.below ((Below.refl _ _).alloc (Nat.le_refl _) _) (by simp)
  have HT : Hid (∀ X, Below w.heap.size w X → Row .u8 X X.heap.size (some ⟨b, off, none⟩) 0 (zs.drop 6)) := fun X hX => row_none hr.1
  have HC5 : Hid (∀ X, Below w.heap.size w X → X.cell? ⟨b, off + 5, none⟩ = some (.int .u8 u)) := fun X hX => by rw [hX.cell hb, hcell 5 (by omega), hu]
  clear hr hx hcell hkw
  clear h0 hu
  have Hp := Lib.hid hp
  have Hq := Lib.hid hq
  clear hp hq
  have HK := Lib.hid hk
  have HKN := Lib.hid hkn
  have hkb : k ≤ 8000 := by unfold nb at hkn; omega
  have hnk : 0 ≤ ((nb k : Nat) : Int) := by omega
  clear hk hkn
  have hbb0 : (u == ((nb k : Nat) : Int)) = false := by simpa using hby
  clear hby
  go_enter Try.func25, Try.ntmps25
  go_wp2_with (first
    | (go_at_call 48; (with_reducible refine (rword_any (some ⟨b, off, none⟩) 6 6 zs 1 p _ Hp.out (HR.out.drewN _) HX.out (by omega)).mono ?_); rintro e w' ⟨rfl, d1, rfl⟩)
    | (go_at_call 48; (with_reducible refine (rword_any (some ⟨b, off, none⟩) 6 6 zs 1 p _ Hp.out HR.out HX.out (by omega)).mono ?_); rintro e w' ⟨rfl, d1, rfl⟩)
    | (go_at_call 48; (with_reducible refine (rword_any (some ⟨b, off, none⟩) 6 6 zs 3 q _ Hq.out (HR.out.drewN _) HX.out (by omega)).mono ?_); rintro e w' ⟨rfl, d3, rfl⟩)
    | (go_at_call 48; (with_reducible refine (rword_any (some ⟨b, off, none⟩) 6 6 zs 3 q _ Hq.out HR.out HX.out (by omega)).mono ?_); rintro e w' ⟨rfl, d3, rfl⟩))
  obtain ⟨w3, hw3⟩ : ∃ w3, (((((w.alloc (.cells #[.int .i64 0, .int .i64 0, .int .i64 0, .int .u16 0, .int .u16 0, .int .u16 0, .slice none 0 0, .slice none 0 0, .int .i64 0, .int .i64 0, .int .i64 0, .int .i64 0] 30)).alloc (.cells #[.int .i64 15, .int .i64 0, .int .i64 0, .int .u16 0, .int .u16 0, .int .u16 0, .slice none 0 0, .slice none 0 0, .int .i64 0, .int .i64 0, .int .i64 0, .int .i64 0] 30)).drewN (d1 + d3)).setCell ⟨w.heap.size + 1, 1, none⟩ (.int .i64 p)).setCell ⟨w.heap.size + 1, 2, none⟩ (.int .i64 q)) = w3 := ⟨_, rfl⟩
  have hxa : Below (w.heap.size + 1) ((w.alloc (.cells #[.int .i64 0, .int .i64 0, .int .i64 0, .int .u16 0, .int .u16 0, .int .u16 0, .slice none 0 0, .slice none 0 0, .int .i64 0, .int .i64 0, .int .i64 0, .int .i64 0] 30)).alloc (.cells #[.int .i64 15, .int .i64 0, .int .i64 0, .int .u16 0, .int .u16 0, .int .u16 0, .slice none 0 0, .slice none 0 0, .int .i64 0, .int .i64 0, .int .i64 0, .int .i64 0] 30)) w3 := by rw [← hw3]; exact (((below_drewN (Below.refl (w.heap.size + 1) _) (d1 + d3)).setCell (p := ⟨w.heap.size + 1, 1, none⟩) (Nat.le_refl _) (.int .i64 p)).setCell (p := ⟨w.heap.size + 1, 2, none⟩) (Nat.le_refl _) (.int .i64 q))
  have ha4 : WholeV w3 (w.heap.size + 1) 30 [.int .i64 15, .int .i64 p, .int .i64 q, .int .u16 0, .int .u16 0, .int .u16 0, .slice none 0 0, .slice none 0 0, .int .i64 0, .int .i64 0, .int .i64 0, .int .i64 0] := by rw [← hw3]; exact (((HG4.out.drewN (d1 + d3)).set 1 (.int .i64 p)).set 2 (.int .i64 q))
  have ha2 : WholeV w3 w.heap.size 30 [.int .i64 0, .int .i64 0, .int .i64 0, .int .u16 0, .int .u16 0, .int .u16 0, .slice none 0 0, .slice none 0 0, .int .i64 0, .int .i64 0, .int .i64 0, .int .i64 0] := HG2.out.below hxa (Nat.lt_succ_self _)
  have hab : Below w.heap.size w w3 := HKW.out.trans (hxa.mono (Nat.le_succ _))
  have hz3 : w.heap.size + 2 ≤ w3.heap.size := ha4.lt
  rw [hw3]
  have HA4 := Lib.hid ha4
  have HA2 := Lib.hid ha2
  have HAB := Lib.hid hab
  have HT3 := Lib.hid (HT.out _ hab)
  obtain ⟨hq0, hq1, hq2, hq3, hq4, hq5, hq6, hq7, hq8, hq9, hq10, hq11⟩ := cells12 ha4
  clear hw3 hxa ha4 ha2 hab HG4 HG2 HKW
  go_region_with (first
      | (go_at_call 49
         (with_reducible refine (refunpack_at _ 0 _ k q (zs.drop 6) _ (by have := HKN.out; omega) HK.out (HT3.out.drewN 1) (HX.out.drop 6) (by omega)).mono ?_)
         rintro e w5 ⟨G, g, rfl, ho5, hb5⟩
         have hb5' : Below w3.heap.size w3 w5 := below_from (d := 1) hb5
         have h1 := HA4.out.below hb5' (show w.heap.size + 1 < w3.heap.size by omega)
         have h0 := HA2.out.below hb5' (show w.heap.size < w3.heap.size by omega)
         have hb5w : Below w.heap.size w w5 := HAB.out.trans (hb5'.mono HAB.out.size)
         have HB5 := Lib.hid hb5w
         obtain ⟨hs0, hs1, hs2, hs3, hs4, hs5, hs6, hs7, hs8, hs9, hs10, hs11⟩ := cells12 h1
         have hf6 := h1.frozen 6
         have hz5 : w.heap.size + 2 ≤ w5.heap.size := h1.lt
         have HH1 := Lib.hid h1
         have HH0 := Lib.hid h0
         have HO5 : Hid (w5.ownsRow w3.heap.size 4 1 (.slice G k g) k ((unb (zs.drop 6) k).map Value.bool)) := own_mono ho5 (Nat.le_refl _)
         clear h1 h0 hb5 hb5' hb5w ho5))
  all_goals go_wp2
  all_goals
    obtain ⟨w6, hw6⟩ : ∃ X, w5.setCell ⟨w.heap.size + 1, 6, none⟩ (.slice G k g) = X := ⟨_, rfl⟩
    have g4 : WholeV w6 (w.heap.size + 1) 30 [.int .i64 15, .int .i64 p, .int .i64 q, .int .u16 0, .int .u16 0, .int .u16 0, .slice G k g, .slice none 0 0, .int .i64 0, .int .i64 0, .int .i64 0, .int .i64 0] := by rw [← hw6]; exact HH1.out.set 6 (.slice G k g)
    have g2 : WholeV w6 w.heap.size 30 [.int .i64 0, .int .i64 0, .int .i64 0, .int .u16 0, .int .u16 0, .int .u16 0, .slice none 0 0, .slice none 0 0, .int .i64 0, .int .i64 0, .int .i64 0, .int .i64 0] := by rw [← hw6]; exact HH0.out.below ((Below.refl (w.heap.size + 1) _).setCell (p := ⟨w.heap.size + 1, 6, none⟩) (Nat.le_refl _) _) (Nat.lt_succ_self _)
    have gb : Below w.heap.size w w6 := by rw [← hw6]; exact HB5.out.setCell (p := ⟨w.heap.size + 1, 6, none⟩) (Nat.le_succ _) _
    have go : w6.ownsRow w3.heap.size 4 1 (.slice G k g) k ((unb (zs.drop 6) k).map Value.bool) := by rw [← hw6]; exact own_far HO5.out ⟨w.heap.size + 1, 6, none⟩ (show w.heap.size + 1 < w3.heap.size by omega) _
    rw [hw6]
    have HG4 := Lib.hid g4
    have HG2 := Lib.hid g2
    have HGB := Lib.hid gb
    have HGO := Lib.hid go
    have hc5 := HC5.out _ gb
    obtain ⟨ht0, ht1, ht2, ht3, ht4, ht5, ht6, ht7, ht8, ht9, ht10, ht11⟩ := cells12 g4
    clear hw6 g4 g2 gb go
    have HBq : Hid (∀ W : World, Calls Try.prog 50 #[.int .i64 q] W fun e w' => e = .returned (.int .i64 ((nb k : Nat) : Int)) ∧ W = w') := fun W => by rw [HK.out]; exact refbytes_nat k W (by omega)
    go_quiet ((go_at_call 50; exact quiet_still (HBq.out _)))
    go_wp2
    obtain ⟨w7, hw7⟩ : ∃ X, w6.drewN nq = X := ⟨_, rfl⟩
    have a4 : WholeV w7 (w.heap.size + 1) 30 [.int .i64 15, .int .i64 p, .int .i64 q, .int .u16 0, .int .u16 0, .int .u16 0, .slice G k g, .slice none 0 0, .int .i64 0, .int .i64 0, .int .i64 0, .int .i64 0] := by rw [← hw7]; exact HG4.out
    have a2 : WholeV w7 w.heap.size 30 [.int .i64 0, .int .i64 0, .int .i64 0, .int .u16 0, .int .u16 0, .int .u16 0, .slice none 0 0, .slice none 0 0, .int .i64 0, .int .i64 0, .int .i64 0, .int .i64 0] := by rw [← hw7]; exact HG2.out
    have ab : Below w.heap.size w w7 := by rw [← hw7]; exact below_drewN HGB.out nq
    have ao : w7.ownsRow w3.heap.size 4 1 (.slice G k g) k ((unb (zs.drop 6) k).map Value.bool) := by rw [← hw7]; exact HGO.out
    rw [hw7]
    have HA4 := Lib.hid a4
    have HA2 := Lib.hid a2
    have HAB := Lib.hid ab
    have HAO := Lib.hid ao
    obtain ⟨hx0, hx1, hx2, hx3, hx4, hx5, hx6, hx7, hx8, hx9, hx10, hx11⟩ := cells12 a4
    have hz7 : w.heap.size + 2 ≤ w7.heap.size := a4.lt
    obtain ⟨hp0, hp1, hp2, hp3, hp4, hp5, hp6, hp7, hp8, hp9, hp10, hp11⟩ := cells12 a2
    obtain ⟨hg0, hg1, hg2, hg3, hg4, hg5, hg6, hg7, hg8, hg9, hg10, hg11⟩ := frozen12 a2
    obtain ⟨w9, hw9, hwh, hbb⟩ := set12 a2 ab (.int .i64 15) (.int .i64 p) (.int .i64 q) (.int .u16 0) (.int .u16 0) (.int .u16 0) (.slice G k g) (.slice none 0 0) (.int .i64 0) (.int .i64 0) (.int .i64 0) (.int .i64 0) rfl
    have HE := Lib.hid (cells12 hwh)
    have HBB := Lib.hid hbb
    have HW9 := Lib.hid hw9
    clear hwh hbb hw9 a4 a2 ab hw7 HR HX HG4 HG2 HGB ht0 ht1 ht2 ht3 ht4 ht5 ht6 ht7 ht8 ht9 ht10 ht11 hc5 ao
    first | go_region_with (fail) | skip
    all_goals
      go_wp2
      rw [HW9.out]
      obtain ⟨he0, he1, he2, he3, he4, he5, he6, he7, he8, he9, he10, he11⟩ := HE.out
      exact bodyPost_ret (v := .tuple #[.agg #[.int .i64 15, .int .i64 p, .int .i64 q, .int .u16 0, .int .u16 0, .int .u16 0, .slice G k g, .slice none 0 0, .int .i64 0, .int .i64 0, .int .i64 0, .int .i64 0], .bool false]) (by simp [results, Try.results25, go_sem, he0, he1, he2, he3, he4, he5, he6, he7, he8, he9, he10, he11]) rfl ⟨_, _, rfl, HBB.out.drew⟩

theorem right_lit_AskRead15 (fn at_ n v an orr : Int) (bl wl : Nat) (ra rn co ob : Int) (BA WA : Option Addr) (bc wc : Nat) (w : World) (bb : Bool) (h : decide (rightP fn at_ n v an orr bl wl ra rn co ob) = bb) :
    Calls Try.prog 52 #[.agg #[.int .i64 fn, .int .i64 at_, .int .i64 n, .int .u16 v, .int .u16 an, .int .u16 orr, .slice BA bl bc, .slice WA wl wc, .int .i64 ra, .int .i64 rn, .int .i64 co, .int .i64 ob]] w fun e w' => e = .returned (.bool bb) ∧ Below w.heap.size w w' := by
  rw [← h]
  exact rright_any fn at_ n v an orr bl wl ra rn co ob BA WA bc wc w

set_option maxRecDepth 100000 in
set_option maxHeartbeats 1000000 in
theorem rread_15_isa (A : Option Addr) (n c : Nat) (zs : List Int) (w : World) (hr : Row .u8 w w.heap.size A n zs) (hx : Bytes8 zs) (hn : n ≤ 1000) (h1 : 1 ≤ n) (p q u : Int) (t : Nat) (h0 : zs.getD 0 0 = 15) (hl : n = 6 + t) (hc : n ≤ c) (hcap : ¬ c = 6) (hu : zs.getD 5 0 = u) (hp : gotW zs n 1 = p) (hq : gotW zs n 3 = q) (k : Nat) (hk : q = (k : Int)) (hkn : (t : Int) = ((nb k : Nat) : Int)) (hby : u = ((nb k : Nat) : Int)) (bb : Bool) (hrt : decide (rightP 15 p q 0 0 0 k 0 0 0 0 0) = bb) :
    Calls Try.prog 25 #[.slice A n c] w fun e w' => ∃ G g, e = .returned (.tuple #[.agg #[.int .i64 15, .int .i64 p, .int .i64 q, .int .u16 0, .int .u16 0, .int .u16 0, .slice G k g, .slice none 0 0, .int .i64 0, .int .i64 0, .int .i64 0, .int .i64 0], .bool bb]) ∧ w'.ownsRow w.heap.size 4 1 (.slice G k g) k ((unb (zs.drop 6) k).map Value.bool) ∧ Below w.heap.size w w' := by
  obtain ⟨lop, hip⟩ := gotW_bounds hx n 1
  rw [hp] at lop hip
  obtain ⟨loq, hiq⟩ := gotW_bounds hx n 3
  rw [hq] at loq hiq
  obtain ⟨lou, hiu⟩ := hx.at_ 5
  change 0 ≤ zs.getD 5 0 at lou
  change zs.getD 5 0 ≤ 255 at hiu
  rw [hu] at lou hiu
  subst hl
  have hct : 6 < c := by omega
  obtain ⟨b, off, rfl, hb, hcell⟩ := hr.2 (by omega)
  have hc0 : (w.alloc (.cells #[.int .i64 0, .int .i64 0, .int .i64 0, .int .u16 0, .int .u16 0, .int .u16 0, .slice none 0 0, .slice none 0 0, .int .i64 0, .int .i64 0, .int .i64 0, .int .i64 0] 30)).cell? ⟨b, off, none⟩ = some (.int .u8 15) := by
    rw [World.cell?_alloc_lt w _ ⟨b, off, none⟩ hb]
    have := hcell 0 (by omega)
    rw [Nat.add_zero, h0] at this
    exact this
  have hn0 : (0 : Int) < (((6 + t) : Nat) : Int) := by omega
  have hkw : Below w.heap.size w ((w.alloc (.cells #[.int .i64 0, .int .i64 0, .int .i64 0, .int .u16 0, .int .u16 0, .int .u16 0, .slice none 0 0, .slice none 0 0, .int .i64 0, .int .i64 0, .int .i64 0, .int .i64 0] 30)).alloc (.cells #[.int .i64 15, .int .i64 0, .int .i64 0, .int .u16 0, .int .u16 0, .int .u16 0, .slice none 0 0, .slice none 0 0, .int .i64 0, .int .i64 0, .int .i64 0, .int .i64 0] 30)) := ((Below.refl _ _).alloc (Nat.le_refl _) _).alloc (by simp) _
  have HR := Lib.hid ((hr.below hkw).more hkw.size)
  have HX := Lib.hid hx
  have HKW := Lib.hid hkw
  have HG4 : Hid (WholeV ((w.alloc (.cells #[.int .i64 0, .int .i64 0, .int .i64 0, .int .u16 0, .int .u16 0, .int .u16 0, .slice none 0 0, .slice none 0 0, .int .i64 0, .int .i64 0, .int .i64 0, .int .i64 0] 30)).alloc (.cells #[.int .i64 15, .int .i64 0, .int .i64 0, .int .u16 0, .int .u16 0, .int .u16 0, .slice none 0 0, .slice none 0 0, .int .i64 0, .int .i64 0, .int .i64 0, .int .i64 0] 30)) (w.heap.size + 1) 30 [.int .i64 15, .int .i64 0, .int .i64 0, .int .u16 0, .int .u16 0, .int .u16 0, .slice none 0 0, .slice none 0 0, .int .i64 0, .int .i64 0, .int .i64 0, .int .i64 0]) := by
    have h := heap_alloc_new (w.alloc (.cells #[.int .i64 0, .int .i64 0, .int .i64 0, .int .u16 0, .int .u16 0, .int .u16 0, .slice none 0 0, .slice none 0 0, .int .i64 0, .int .i64 0, .int .i64 0, .int .i64 0] 30)) (.cells #[.int .i64 15, .int .i64 0, .int .i64 0, .int .u16 0, .int .u16 0, .int .u16 0, .slice none 0 0, .slice none 0 0, .int .i64 0, .int .i64 0, .int .i64 0, .int .i64 0] 30)
    rwa [show (w.alloc (.cells #[.int .i64 0, .int .i64 0, .int .i64 0, .int .u16 0, .int .u16 0, .int .u16 0, .slice none 0 0, .slice none 0 0, .int .i64 0, .int .i64 0, .int .i64 0, .int .i64 0] 30)).heap.size = w.heap.size + 1 by simp] at h
  have HG2 : Hid (WholeV ((w.alloc (.cells #[.int .i64 0, .int .i64 0, .int .i64 0, .int .u16 0, .int .u16 0, .int .u16 0, .slice none 0 0, .slice none 0 0, .int .i64 0, .int .i64 0, .int .i64 0, .int .i64 0] 30)).alloc (.cells #[.int .i64 15, .int .i64 0, .int .i64 0, .int .u16 0, .int .u16 0, .int .u16 0, .slice none 0 0, .slice none 0 0, .int .i64 0, .int .i64 0, .int .i64 0, .int .i64 0] 30)) w.heap.size 30 [.int .i64 0, .int .i64 0, .int .i64 0, .int .u16 0, .int .u16 0, .int .u16 0, .slice none 0 0, .slice none 0 0, .int .i64 0, .int .i64 0, .int .i64 0, .int .i64 0]) := by
    have h : WholeV (w.alloc (.cells #[.int .i64 0, .int .i64 0, .int .i64 0, .int .u16 0, .int .u16 0, .int .u16 0, .slice none 0 0, .slice none 0 0, .int .i64 0, .int .i64 0, .int .i64 0, .int .i64 0] 30)) w.heap.size 30 [.int .i64 0, .int .i64 0, .int .i64 0, .int .u16 0, .int .u16 0, .int .u16 0, .slice none 0 0, .slice none 0 0, .int .i64 0, .int .i64 0, .int .i64 0, .int .i64 0] := heap_alloc_new w _
    exact h.below ((Below.refl _ _).alloc (Nat.le_refl _) _) (by simp)
  have HT : Hid (∀ X, Below w.heap.size w X → Row .u8 X X.heap.size (some ⟨b, off + 6, none⟩) t (zs.drop 6)) := fun X hX => ((hr.below hX).more hX.size).tail rfl
  have HC5 : Hid (∀ X, Below w.heap.size w X → X.cell? ⟨b, off + 5, none⟩ = some (.int .u8 u)) := fun X hX => by rw [hX.cell hb, hcell 5 (by omega), hu]
  clear hr hx hcell hkw
  have hl5 : (5 : Int) < (((6 + t) : Nat) : Int) := by omega
  have hl6 : ¬ (((6 + t) : Nat) : Int) < 6 := by omega
  clear h0 hu
  have Hp := Lib.hid hp
  have Hq := Lib.hid hq
  clear hp hq
  have HK := Lib.hid hk
  have HKN := Lib.hid hkn
  have hkb : k ≤ 8000 := by unfold nb at hkn; omega
  have hnk : 0 ≤ ((nb k : Nat) : Int) := by omega
  clear hk hkn
  have HBy := Lib.hid hby
  have HRt := Lib.hid hrt
  clear hby hrt
  go_enter Try.func25, Try.ntmps25
  go_wp2_with (first
    | (go_at_call 48; (with_reducible refine (rword_any (some ⟨b, off, none⟩) (6 + t) c zs 1 p _ Hp.out (HR.out.drewN _) HX.out (by omega)).mono ?_); rintro e w' ⟨rfl, d1, rfl⟩)
    | (go_at_call 48; (with_reducible refine (rword_any (some ⟨b, off, none⟩) (6 + t) c zs 1 p _ Hp.out HR.out HX.out (by omega)).mono ?_); rintro e w' ⟨rfl, d1, rfl⟩)
    | (go_at_call 48; (with_reducible refine (rword_any (some ⟨b, off, none⟩) (6 + t) c zs 3 q _ Hq.out (HR.out.drewN _) HX.out (by omega)).mono ?_); rintro e w' ⟨rfl, d3, rfl⟩)
    | (go_at_call 48; (with_reducible refine (rword_any (some ⟨b, off, none⟩) (6 + t) c zs 3 q _ Hq.out HR.out HX.out (by omega)).mono ?_); rintro e w' ⟨rfl, d3, rfl⟩))
  obtain ⟨w3, hw3⟩ : ∃ w3, (((((w.alloc (.cells #[.int .i64 0, .int .i64 0, .int .i64 0, .int .u16 0, .int .u16 0, .int .u16 0, .slice none 0 0, .slice none 0 0, .int .i64 0, .int .i64 0, .int .i64 0, .int .i64 0] 30)).alloc (.cells #[.int .i64 15, .int .i64 0, .int .i64 0, .int .u16 0, .int .u16 0, .int .u16 0, .slice none 0 0, .slice none 0 0, .int .i64 0, .int .i64 0, .int .i64 0, .int .i64 0] 30)).drewN (d1 + d3)).setCell ⟨w.heap.size + 1, 1, none⟩ (.int .i64 p)).setCell ⟨w.heap.size + 1, 2, none⟩ (.int .i64 q)) = w3 := ⟨_, rfl⟩
  have hxa : Below (w.heap.size + 1) ((w.alloc (.cells #[.int .i64 0, .int .i64 0, .int .i64 0, .int .u16 0, .int .u16 0, .int .u16 0, .slice none 0 0, .slice none 0 0, .int .i64 0, .int .i64 0, .int .i64 0, .int .i64 0] 30)).alloc (.cells #[.int .i64 15, .int .i64 0, .int .i64 0, .int .u16 0, .int .u16 0, .int .u16 0, .slice none 0 0, .slice none 0 0, .int .i64 0, .int .i64 0, .int .i64 0, .int .i64 0] 30)) w3 := by rw [← hw3]; exact (((below_drewN (Below.refl (w.heap.size + 1) _) (d1 + d3)).setCell (p := ⟨w.heap.size + 1, 1, none⟩) (Nat.le_refl _) (.int .i64 p)).setCell (p := ⟨w.heap.size + 1, 2, none⟩) (Nat.le_refl _) (.int .i64 q))
  have ha4 : WholeV w3 (w.heap.size + 1) 30 [.int .i64 15, .int .i64 p, .int .i64 q, .int .u16 0, .int .u16 0, .int .u16 0, .slice none 0 0, .slice none 0 0, .int .i64 0, .int .i64 0, .int .i64 0, .int .i64 0] := by rw [← hw3]; exact (((HG4.out.drewN (d1 + d3)).set 1 (.int .i64 p)).set 2 (.int .i64 q))
  have ha2 : WholeV w3 w.heap.size 30 [.int .i64 0, .int .i64 0, .int .i64 0, .int .u16 0, .int .u16 0, .int .u16 0, .slice none 0 0, .slice none 0 0, .int .i64 0, .int .i64 0, .int .i64 0, .int .i64 0] := HG2.out.below hxa (Nat.lt_succ_self _)
  have hab : Below w.heap.size w w3 := HKW.out.trans (hxa.mono (Nat.le_succ _))
  have hz3 : w.heap.size + 2 ≤ w3.heap.size := ha4.lt
  rw [hw3]
  have HA4 := Lib.hid ha4
  have HA2 := Lib.hid ha2
  have HAB := Lib.hid hab
  have HT3 := Lib.hid (HT.out _ hab)
  obtain ⟨hq0, hq1, hq2, hq3, hq4, hq5, hq6, hq7, hq8, hq9, hq10, hq11⟩ := cells12 ha4
  clear hw3 hxa ha4 ha2 hab HG4 HG2 HKW
  go_region_with (first
      | (go_at_call 49
         (with_reducible refine (refunpack_at _ t _ k q (zs.drop 6) _ (by have := HKN.out; omega) HK.out (HT3.out.drewN 1) (HX.out.drop 6) (by omega)).mono ?_)
         rintro e w5 ⟨G, g, rfl, ho5, hb5⟩
         have hb5' : Below w3.heap.size w3 w5 := below_from (d := 1) hb5
         have h1 := HA4.out.below hb5' (show w.heap.size + 1 < w3.heap.size by omega)
         have h0 := HA2.out.below hb5' (show w.heap.size < w3.heap.size by omega)
         have hb5w : Below w.heap.size w w5 := HAB.out.trans (hb5'.mono HAB.out.size)
         have HB5 := Lib.hid hb5w
         obtain ⟨hs0, hs1, hs2, hs3, hs4, hs5, hs6, hs7, hs8, hs9, hs10, hs11⟩ := cells12 h1
         have hf6 := h1.frozen 6
         have hz5 : w.heap.size + 2 ≤ w5.heap.size := h1.lt
         have HH1 := Lib.hid h1
         have HH0 := Lib.hid h0
         have HO5 : Hid (w5.ownsRow w3.heap.size 4 1 (.slice G k g) k ((unb (zs.drop 6) k).map Value.bool)) := own_mono ho5 (Nat.le_refl _)
         clear h1 h0 hb5 hb5' hb5w ho5))
  all_goals go_wp2
  all_goals
    obtain ⟨w6, hw6⟩ : ∃ X, w5.setCell ⟨w.heap.size + 1, 6, none⟩ (.slice G k g) = X := ⟨_, rfl⟩
    have g4 : WholeV w6 (w.heap.size + 1) 30 [.int .i64 15, .int .i64 p, .int .i64 q, .int .u16 0, .int .u16 0, .int .u16 0, .slice G k g, .slice none 0 0, .int .i64 0, .int .i64 0, .int .i64 0, .int .i64 0] := by rw [← hw6]; exact HH1.out.set 6 (.slice G k g)
    have g2 : WholeV w6 w.heap.size 30 [.int .i64 0, .int .i64 0, .int .i64 0, .int .u16 0, .int .u16 0, .int .u16 0, .slice none 0 0, .slice none 0 0, .int .i64 0, .int .i64 0, .int .i64 0, .int .i64 0] := by rw [← hw6]; exact HH0.out.below ((Below.refl (w.heap.size + 1) _).setCell (p := ⟨w.heap.size + 1, 6, none⟩) (Nat.le_refl _) _) (Nat.lt_succ_self _)
    have gb : Below w.heap.size w w6 := by rw [← hw6]; exact HB5.out.setCell (p := ⟨w.heap.size + 1, 6, none⟩) (Nat.le_succ _) _
    have go : w6.ownsRow w3.heap.size 4 1 (.slice G k g) k ((unb (zs.drop 6) k).map Value.bool) := by rw [← hw6]; exact own_far HO5.out ⟨w.heap.size + 1, 6, none⟩ (show w.heap.size + 1 < w3.heap.size by omega) _
    rw [hw6]
    have HG4 := Lib.hid g4
    have HG2 := Lib.hid g2
    have HGB := Lib.hid gb
    have HGO := Lib.hid go
    have hc5 := HC5.out _ gb
    obtain ⟨ht0, ht1, ht2, ht3, ht4, ht5, ht6, ht7, ht8, ht9, ht10, ht11⟩ := cells12 g4
    clear hw6 g4 g2 gb go
    have HBq : Hid (∀ W : World, Calls Try.prog 50 #[.int .i64 q] W fun e w' => e = .returned (.int .i64 ((nb k : Nat) : Int)) ∧ W = w') := fun W => by rw [HK.out]; exact refbytes_nat k W (by omega)
    have hbe : (u == ((nb k : Nat) : Int)) = true := by rw [HBy.out]; simp
    go_quiet ((go_at_call 50; exact quiet_still (HBq.out _)))
    go_wp2
    obtain ⟨w7, hw7⟩ : ∃ X, w6.drewN nq = X := ⟨_, rfl⟩
    have a4 : WholeV w7 (w.heap.size + 1) 30 [.int .i64 15, .int .i64 p, .int .i64 q, .int .u16 0, .int .u16 0, .int .u16 0, .slice G k g, .slice none 0 0, .int .i64 0, .int .i64 0, .int .i64 0, .int .i64 0] := by rw [← hw7]; exact HG4.out
    have a2 : WholeV w7 w.heap.size 30 [.int .i64 0, .int .i64 0, .int .i64 0, .int .u16 0, .int .u16 0, .int .u16 0, .slice none 0 0, .slice none 0 0, .int .i64 0, .int .i64 0, .int .i64 0, .int .i64 0] := by rw [← hw7]; exact HG2.out
    have ab : Below w.heap.size w w7 := by rw [← hw7]; exact below_drewN HGB.out nq
    have ao : w7.ownsRow w3.heap.size 4 1 (.slice G k g) k ((unb (zs.drop 6) k).map Value.bool) := by rw [← hw7]; exact HGO.out
    rw [hw7]
    have HA4 := Lib.hid a4
    have HA2 := Lib.hid a2
    have HAB := Lib.hid ab
    have HAO := Lib.hid ao
    obtain ⟨hx0, hx1, hx2, hx3, hx4, hx5, hx6, hx7, hx8, hx9, hx10, hx11⟩ := cells12 a4
    have hz7 : w.heap.size + 2 ≤ w7.heap.size := a4.lt
    clear a4 a2 ab ao hw7 HR HX HG4 HG2 HGB ht0 ht1 ht2 ht3 ht4 ht5 ht6 ht7 ht8 ht9 ht10 ht11 hc5
    go_region_with (first
      | (go_at_call 52
         (with_reducible refine (right_lit_AskRead15 15 p q 0 0 0 k 0 0 0 0 0 G none g 0 w7.drew bb HRt.out).mono ?_)
         rintro e w8 ⟨rfl, hb8⟩
         have hb8' := below_from (d := 1) hb8
         have b2 := HA2.out.below hb8' (show w.heap.size < w7.heap.size by omega)
         obtain ⟨hs0, hs1, hs2, hs3, hs4, hs5, hs6, hs7, hs8, hs9, hs10, hs11⟩ := cells12 b2
         obtain ⟨hv0, hv1, hv2, hv3, hv4, hv5, hv6, hv7, hv8, hv9, hv10, hv11⟩ := cells12 (HA4.out.below hb8' (show w.heap.size + 1 < w7.heap.size by omega))
         obtain ⟨hg0, hg1, hg2, hg3, hg4, hg5, hg6, hg7, hg8, hg9, hg10, hg11⟩ := frozen12 b2
         obtain ⟨w9, hw9, hwh, hbb⟩ := set12 b2 (HAB.out.trans (hb8'.mono HAB.out.size)) (.int .i64 15) (.int .i64 p) (.int .i64 q) (.int .u16 0) (.int .u16 0) (.int .u16 0) (.slice G k g) (.slice none 0 0) (.int .i64 0) (.int .i64 0) (.int .i64 0) (.int .i64 0) rfl
         have ho8 := own_keep HAO.out hb8'
         have ho9 : w9.ownsRow w3.heap.size 4 1 (.slice G k g) k ((unb (zs.drop 6) k).map Value.bool) := by rw [← hw9]; exact (own_far (own_far (own_far (own_far (own_far (own_far (own_far (own_far (own_far (own_far (own_far (own_far ho8 ⟨w.heap.size, 0, none⟩ (show w.heap.size < w3.heap.size by omega) (.int .i64 15)) ⟨w.heap.size, 1, none⟩ (show w.heap.size < w3.heap.size by omega) (.int .i64 p)) ⟨w.heap.size, 2, none⟩ (show w.heap.size < w3.heap.size by omega) (.int .i64 q)) ⟨w.heap.size, 3, none⟩ (show w.heap.size < w3.heap.size by omega) (.int .u16 0)) ⟨w.heap.size, 4, none⟩ (show w.heap.size < w3.heap.size by omega) (.int .u16 0)) ⟨w.heap.size, 5, none⟩ (show w.heap.size < w3.heap.size by omega) (.int .u16 0)) ⟨w.heap.size, 6, none⟩ (show w.heap.size < w3.heap.size by omega) (.slice G k g)) ⟨w.heap.size, 7, none⟩ (show w.heap.size < w3.heap.size by omega) (.slice none 0 0)) ⟨w.heap.size, 8, none⟩ (show w.heap.size < w3.heap.size by omega) (.int .i64 0)) ⟨w.heap.size, 9, none⟩ (show w.heap.size < w3.heap.size by omega) (.int .i64 0)) ⟨w.heap.size, 10, none⟩ (show w.heap.size < w3.heap.size by omega) (.int .i64 0)) ⟨w.heap.size, 11, none⟩ (show w.heap.size < w3.heap.size by omega) (.int .i64 0))
         have HE := Lib.hid (cells12 hwh)
         have HBB := Lib.hid hbb
         have HW9 := Lib.hid hw9
         have HO9 := Lib.hid ho9
         clear hwh hbb hw9 b2 hb8' ho8 ho9))
    all_goals
      go_wp2
      try rw [HW9.out]
      obtain ⟨he0, he1, he2, he3, he4, he5, he6, he7, he8, he9, he10, he11⟩ := HE.out
      first
        | exact bodyPost_ret (v := .tuple #[.agg #[.int .i64 15, .int .i64 p, .int .i64 q, .int .u16 0, .int .u16 0, .int .u16 0, .slice G k g, .slice none 0 0, .int .i64 0, .int .i64 0, .int .i64 0, .int .i64 0], .bool bb]) (by simp [results, Try.results25, go_sem, he0, he1, he2, he3, he4, he5, he6, he7, he8, he9, he10, he11]) rfl ⟨_, _, rfl, (own_mono HO9.out (show w.heap.size ≤ w3.heap.size by omega)), HBB.out⟩
        | exact bodyPost_ret (v := .tuple #[.agg #[.int .i64 15, .int .i64 p, .int .i64 q, .int .u16 0, .int .u16 0, .int .u16 0, .slice G k g, .slice none 0 0, .int .i64 0, .int .i64 0, .int .i64 0, .int .i64 0], .bool bb]) (by simp [results, Try.results25, go_sem, he0, he1, he2, he3, he4, he5, he6, he7, he8, he9, he10, he11]) rfl ⟨_, _, rfl, (own_mono HO9.out (show w.heap.size ≤ w3.heap.size by omega)).drew, HBB.out.drew⟩

set_option maxRecDepth 100000 in
set_option maxHeartbeats 1000000 in
theorem rread_15_isb (A : Option Addr) (n c : Nat) (zs : List Int) (w : World) (hr : Row .u8 w w.heap.size A n zs) (hx : Bytes8 zs) (hn : n ≤ 1000) (h1 : 1 ≤ n) (p q u : Int) (t : Nat) (h0 : zs.getD 0 0 = 15) (hl : n = 6 + t) (hc : n ≤ c) (hcap : c = 6) (hu : zs.getD 5 0 = u) (hp : gotW zs n 1 = p) (hq : gotW zs n 3 = q) (k : Nat) (hk : q = (k : Int)) (hkn : (t : Int) = ((nb k : Nat) : Int)) (hby : u = ((nb k : Nat) : Int)) (bb : Bool) (hrt : decide (rightP 15 p q 0 0 0 k 0 0 0 0 0) = bb) :
    Calls Try.prog 25 #[.slice A n c] w fun e w' => ∃ G g, e = .returned (.tuple #[.agg #[.int .i64 15, .int .i64 p, .int .i64 q, .int .u16 0, .int .u16 0, .int .u16 0, .slice G k g, .slice none 0 0, .int .i64 0, .int .i64 0, .int .i64 0, .int .i64 0], .bool bb]) ∧ w'.ownsRow w.heap.size 4 1 (.slice G k g) k ((unb (zs.drop 6) k).map Value.bool) ∧ Below w.heap.size w w' := by
  obtain ⟨lop, hip⟩ := gotW_bounds hx n 1
  rw [hp] at lop hip
  obtain ⟨loq, hiq⟩ := gotW_bounds hx n 3
  rw [hq] at loq hiq
  obtain ⟨lou, hiu⟩ := hx.at_ 5
  change 0 ≤ zs.getD 5 0 at lou
  change zs.getD 5 0 ≤ 255 at hiu
  rw [hu] at lou hiu
  obtain rfl : t = 0 := by omega
  obtain rfl : n = 6 := by omega
  clear hl
  subst hcap
  obtain ⟨b, off, rfl, hb, hcell⟩ := hr.2 (by omega)
  have hc0 : (w.alloc (.cells #[.int .i64 0, .int .i64 0, .int .i64 0, .int .u16 0, .int .u16 0, .int .u16 0, .slice none 0 0, .slice none 0 0, .int .i64 0, .int .i64 0, .int .i64 0, .int .i64 0] 30)).cell? ⟨b, off, none⟩ = some (.int .u8 15) := by
    rw [World.cell?_alloc_lt w _ ⟨b, off, none⟩ hb]
    have := hcell 0 (by omega)
    rw [Nat.add_zero, h0] at this
    exact this
  have hn0 : (0 : Int) < ((6 : Nat) : Int) := by omega
  have hkw : Below w.heap.size w ((w.alloc (.cells #[.int .i64 0, .int .i64 0, .int .i64 0, .int .u16 0, .int .u16 0, .int .u16 0, .slice none 0 0, .slice none 0 0, .int .i64 0, .int .i64 0, .int .i64 0, .int .i64 0] 30)).alloc (.cells #[.int .i64 15, .int .i64 0, .int .i64 0, .int .u16 0, .int .u16 0, .int .u16 0, .slice none 0 0, .slice none 0 0, .int .i64 0, .int .i64 0, .int .i64 0, .int .i64 0] 30)) := ((Below.refl _ _).alloc (Nat.le_refl _) _).alloc (by simp) _
  have HR := Lib.hid ((hr.below hkw).more hkw.size)
  have HX := Lib.hid hx
  have HKW := Lib.hid hkw
  have HG4 : Hid (WholeV ((w.alloc (.cells #[.int .i64 0, .int .i64 0, .int .i64 0, .int .u16 0, .int .u16 0, .int .u16 0, .slice none 0 0, .slice none 0 0, .int .i64 0, .int .i64 0, .int .i64 0, .int .i64 0] 30)).alloc (.cells #[.int .i64 15, .int .i64 0, .int .i64 0, .int .u16 0, .int .u16 0, .int .u16 0, .slice none 0 0, .slice none 0 0, .int .i64 0, .int .i64 0, .int .i64 0, .int .i64 0] 30)) (w.heap.size + 1) 30 [.int .i64 15, .int .i64 0, .int .i64 0, .int .u16 0, .int .u16 0, .int .u16 0, .slice none 0 0, .slice none 0 0, .int .i64 0, .int .i64 0, .int .i64 0, .int .i64 0]) := by
    have h := heap_alloc_new (w.alloc (.cells #[.int .i64 0, .int .i64 0, .int .i64 0, .int .u16 0, .int .u16 0, .int .u16 0, .slice none 0 0, .slice none 0 0, .int .i64 0, .int .i64 0, .int .i64 0, .int .i64 0] 30)) (.cells #[.int .i64 15, .int .i64 0, .int .i64 0, .int .u16 0, .int .u16 0, .int .u16 0, .slice none 0 0, .slice none 0 0, .int .i64 0, .int .i64 0, .int .i64 0, .int .i64 0] 30)
    rwa [show (w.alloc (.cells #[.int .i64 0, .int .i64 0, .int .i64 0, .int .u16 0, .int .u16 0, .int .u16 0, .slice none 0 0, .slice none 0 0, .int .i64 0, .int .i64 0, .int .i64 0, .int .i64 0] 30)).heap.size = w.heap.size + 1 by simp] at h
  have HG2 : Hid (WholeV ((w.alloc (.cells #[.int .i64 0, .int .i64 0, .int .i64 0, .int .u16 0, .int .u16 0, .int .u16 0, .slice none 0 0, .slice none 0 0, .int .i64 0, .int .i64 0, .int .i64 0, .int .i64 0] 30)).alloc (.cells #[.int .i64 15, .int .i64 0, .int .i64 0, .int .u16 0, .int .u16 0, .int .u16 0, .slice none 0 0, .slice none 0 0, .int .i64 0, .int .i64 0, .int .i64 0, .int .i64 0] 30)) w.heap.size 30 [.int .i64 0, .int .i64 0, .int .i64 0, .int .u16 0, .int .u16 0, .int .u16 0, .slice none 0 0, .slice none 0 0, .int .i64 0, .int .i64 0, .int .i64 0, .int .i64 0]) := by
    have h : WholeV (w.alloc (.cells #[.int .i64 0, .int .i64 0, .int .i64 0, .int .u16 0, .int .u16 0, .int .u16 0, .slice none 0 0, .slice none 0 0, .int .i64 0, .int .i64 0, .int .i64 0, .int .i64 0] 30)) w.heap.size 30 [.int .i64 0, .int .i64 0, .int .i64 0, .int .u16 0, .int .u16 0, .int .u16 0, .slice none 0 0, .slice none 0 0, .int .i64 0, .int .i64 0, .int .i64 0, .int .i64 0] := heap_alloc_new w _
    exact h.below ((Below.refl _ _).alloc (Nat.le_refl _) _) (by simp)
  have HT : Hid (∀ X, Below w.heap.size w X → Row .u8 X X.heap.size (some ⟨b, off, none⟩) 0 (zs.drop 6)) := fun X hX => row_none hr.1
  have HC5 : Hid (∀ X, Below w.heap.size w X → X.cell? ⟨b, off + 5, none⟩ = some (.int .u8 u)) := fun X hX => by rw [hX.cell hb, hcell 5 (by omega), hu]
  clear hr hx hcell hkw
  clear h0 hu
  have Hp := Lib.hid hp
  have Hq := Lib.hid hq
  clear hp hq
  have HK := Lib.hid hk
  have HKN := Lib.hid hkn
  have hkb : k ≤ 8000 := by unfold nb at hkn; omega
  have hnk : 0 ≤ ((nb k : Nat) : Int) := by omega
  clear hk hkn
  have HBy := Lib.hid hby
  have HRt := Lib.hid hrt
  clear hby hrt
  go_enter Try.func25, Try.ntmps25
  go_wp2_with (first
    | (go_at_call 48; (with_reducible refine (rword_any (some ⟨b, off, none⟩) 6 6 zs 1 p _ Hp.out (HR.out.drewN _) HX.out (by omega)).mono ?_); rintro e w' ⟨rfl, d1, rfl⟩)
    | (go_at_call 48; (with_reducible refine (rword_any (some ⟨b, off, none⟩) 6 6 zs 1 p _ Hp.out HR.out HX.out (by omega)).mono ?_); rintro e w' ⟨rfl, d1, rfl⟩)
    | (go_at_call 48; (with_reducible refine (rword_any (some ⟨b, off, none⟩) 6 6 zs 3 q _ Hq.out (HR.out.drewN _) HX.out (by omega)).mono ?_); rintro e w' ⟨rfl, d3, rfl⟩)
    | (go_at_call 48; (with_reducible refine (rword_any (some ⟨b, off, none⟩) 6 6 zs 3 q _ Hq.out HR.out HX.out (by omega)).mono ?_); rintro e w' ⟨rfl, d3, rfl⟩))
  obtain ⟨w3, hw3⟩ : ∃ w3, (((((w.alloc (.cells #[.int .i64 0, .int .i64 0, .int .i64 0, .int .u16 0, .int .u16 0, .int .u16 0, .slice none 0 0, .slice none 0 0, .int .i64 0, .int .i64 0, .int .i64 0, .int .i64 0] 30)).alloc (.cells #[.int .i64 15, .int .i64 0, .int .i64 0, .int .u16 0, .int .u16 0, .int .u16 0, .slice none 0 0, .slice none 0 0, .int .i64 0, .int .i64 0, .int .i64 0, .int .i64 0] 30)).drewN (d1 + d3)).setCell ⟨w.heap.size + 1, 1, none⟩ (.int .i64 p)).setCell ⟨w.heap.size + 1, 2, none⟩ (.int .i64 q)) = w3 := ⟨_, rfl⟩
  have hxa : Below (w.heap.size + 1) ((w.alloc (.cells #[.int .i64 0, .int .i64 0, .int .i64 0, .int .u16 0, .int .u16 0, .int .u16 0, .slice none 0 0, .slice none 0 0, .int .i64 0, .int .i64 0, .int .i64 0, .int .i64 0] 30)).alloc (.cells #[.int .i64 15, .int .i64 0, .int .i64 0, .int .u16 0, .int .u16 0, .int .u16 0, .slice none 0 0, .slice none 0 0, .int .i64 0, .int .i64 0, .int .i64 0, .int .i64 0] 30)) w3 := by rw [← hw3]; exact (((below_drewN (Below.refl (w.heap.size + 1) _) (d1 + d3)).setCell (p := ⟨w.heap.size + 1, 1, none⟩) (Nat.le_refl _) (.int .i64 p)).setCell (p := ⟨w.heap.size + 1, 2, none⟩) (Nat.le_refl _) (.int .i64 q))
  have ha4 : WholeV w3 (w.heap.size + 1) 30 [.int .i64 15, .int .i64 p, .int .i64 q, .int .u16 0, .int .u16 0, .int .u16 0, .slice none 0 0, .slice none 0 0, .int .i64 0, .int .i64 0, .int .i64 0, .int .i64 0] := by rw [← hw3]; exact (((HG4.out.drewN (d1 + d3)).set 1 (.int .i64 p)).set 2 (.int .i64 q))
  have ha2 : WholeV w3 w.heap.size 30 [.int .i64 0, .int .i64 0, .int .i64 0, .int .u16 0, .int .u16 0, .int .u16 0, .slice none 0 0, .slice none 0 0, .int .i64 0, .int .i64 0, .int .i64 0, .int .i64 0] := HG2.out.below hxa (Nat.lt_succ_self _)
  have hab : Below w.heap.size w w3 := HKW.out.trans (hxa.mono (Nat.le_succ _))
  have hz3 : w.heap.size + 2 ≤ w3.heap.size := ha4.lt
  rw [hw3]
  have HA4 := Lib.hid ha4
  have HA2 := Lib.hid ha2
  have HAB := Lib.hid hab
  have HT3 := Lib.hid (HT.out _ hab)
  obtain ⟨hq0, hq1, hq2, hq3, hq4, hq5, hq6, hq7, hq8, hq9, hq10, hq11⟩ := cells12 ha4
  clear hw3 hxa ha4 ha2 hab HG4 HG2 HKW
  go_region_with (first
      | (go_at_call 49
         (with_reducible refine (refunpack_at _ 0 _ k q (zs.drop 6) _ (by have := HKN.out; omega) HK.out (HT3.out.drewN 1) (HX.out.drop 6) (by omega)).mono ?_)
         rintro e w5 ⟨G, g, rfl, ho5, hb5⟩
         have hb5' : Below w3.heap.size w3 w5 := below_from (d := 1) hb5
         have h1 := HA4.out.below hb5' (show w.heap.size + 1 < w3.heap.size by omega)
         have h0 := HA2.out.below hb5' (show w.heap.size < w3.heap.size by omega)
         have hb5w : Below w.heap.size w w5 := HAB.out.trans (hb5'.mono HAB.out.size)
         have HB5 := Lib.hid hb5w
         obtain ⟨hs0, hs1, hs2, hs3, hs4, hs5, hs6, hs7, hs8, hs9, hs10, hs11⟩ := cells12 h1
         have hf6 := h1.frozen 6
         have hz5 : w.heap.size + 2 ≤ w5.heap.size := h1.lt
         have HH1 := Lib.hid h1
         have HH0 := Lib.hid h0
         have HO5 : Hid (w5.ownsRow w3.heap.size 4 1 (.slice G k g) k ((unb (zs.drop 6) k).map Value.bool)) := own_mono ho5 (Nat.le_refl _)
         clear h1 h0 hb5 hb5' hb5w ho5))
  all_goals go_wp2
  all_goals
    obtain ⟨w6, hw6⟩ : ∃ X, w5.setCell ⟨w.heap.size + 1, 6, none⟩ (.slice G k g) = X := ⟨_, rfl⟩
    have g4 : WholeV w6 (w.heap.size + 1) 30 [.int .i64 15, .int .i64 p, .int .i64 q, .int .u16 0, .int .u16 0, .int .u16 0, .slice G k g, .slice none 0 0, .int .i64 0, .int .i64 0, .int .i64 0, .int .i64 0] := by rw [← hw6]; exact HH1.out.set 6 (.slice G k g)
    have g2 : WholeV w6 w.heap.size 30 [.int .i64 0, .int .i64 0, .int .i64 0, .int .u16 0, .int .u16 0, .int .u16 0, .slice none 0 0, .slice none 0 0, .int .i64 0, .int .i64 0, .int .i64 0, .int .i64 0] := by rw [← hw6]; exact HH0.out.below ((Below.refl (w.heap.size + 1) _).setCell (p := ⟨w.heap.size + 1, 6, none⟩) (Nat.le_refl _) _) (Nat.lt_succ_self _)
    have gb : Below w.heap.size w w6 := by rw [← hw6]; exact HB5.out.setCell (p := ⟨w.heap.size + 1, 6, none⟩) (Nat.le_succ _) _
    have go : w6.ownsRow w3.heap.size 4 1 (.slice G k g) k ((unb (zs.drop 6) k).map Value.bool) := by rw [← hw6]; exact own_far HO5.out ⟨w.heap.size + 1, 6, none⟩ (show w.heap.size + 1 < w3.heap.size by omega) _
    rw [hw6]
    have HG4 := Lib.hid g4
    have HG2 := Lib.hid g2
    have HGB := Lib.hid gb
    have HGO := Lib.hid go
    have hc5 := HC5.out _ gb
    obtain ⟨ht0, ht1, ht2, ht3, ht4, ht5, ht6, ht7, ht8, ht9, ht10, ht11⟩ := cells12 g4
    clear hw6 g4 g2 gb go
    have HBq : Hid (∀ W : World, Calls Try.prog 50 #[.int .i64 q] W fun e w' => e = .returned (.int .i64 ((nb k : Nat) : Int)) ∧ W = w') := fun W => by rw [HK.out]; exact refbytes_nat k W (by omega)
    have hbe : (u == ((nb k : Nat) : Int)) = true := by rw [HBy.out]; simp
    go_quiet ((go_at_call 50; exact quiet_still (HBq.out _)))
    go_wp2
    obtain ⟨w7, hw7⟩ : ∃ X, w6.drewN nq = X := ⟨_, rfl⟩
    have a4 : WholeV w7 (w.heap.size + 1) 30 [.int .i64 15, .int .i64 p, .int .i64 q, .int .u16 0, .int .u16 0, .int .u16 0, .slice G k g, .slice none 0 0, .int .i64 0, .int .i64 0, .int .i64 0, .int .i64 0] := by rw [← hw7]; exact HG4.out
    have a2 : WholeV w7 w.heap.size 30 [.int .i64 0, .int .i64 0, .int .i64 0, .int .u16 0, .int .u16 0, .int .u16 0, .slice none 0 0, .slice none 0 0, .int .i64 0, .int .i64 0, .int .i64 0, .int .i64 0] := by rw [← hw7]; exact HG2.out
    have ab : Below w.heap.size w w7 := by rw [← hw7]; exact below_drewN HGB.out nq
    have ao : w7.ownsRow w3.heap.size 4 1 (.slice G k g) k ((unb (zs.drop 6) k).map Value.bool) := by rw [← hw7]; exact HGO.out
    rw [hw7]
    have HA4 := Lib.hid a4
    have HA2 := Lib.hid a2
    have HAB := Lib.hid ab
    have HAO := Lib.hid ao
    obtain ⟨hx0, hx1, hx2, hx3, hx4, hx5, hx6, hx7, hx8, hx9, hx10, hx11⟩ := cells12 a4
    have hz7 : w.heap.size + 2 ≤ w7.heap.size := a4.lt
    clear a4 a2 ab ao hw7 HR HX HG4 HG2 HGB ht0 ht1 ht2 ht3 ht4 ht5 ht6 ht7 ht8 ht9 ht10 ht11 hc5
    go_region_with (first
      | (go_at_call 52
         (with_reducible refine (right_lit_AskRead15 15 p q 0 0 0 k 0 0 0 0 0 G none g 0 w7.drew bb HRt.out).mono ?_)
         rintro e w8 ⟨rfl, hb8⟩
         have hb8' := below_from (d := 1) hb8
         have b2 := HA2.out.below hb8' (show w.heap.size < w7.heap.size by omega)
         obtain ⟨hs0, hs1, hs2, hs3, hs4, hs5, hs6, hs7, hs8, hs9, hs10, hs11⟩ := cells12 b2
         obtain ⟨hv0, hv1, hv2, hv3, hv4, hv5, hv6, hv7, hv8, hv9, hv10, hv11⟩ := cells12 (HA4.out.below hb8' (show w.heap.size + 1 < w7.heap.size by omega))
         obtain ⟨hg0, hg1, hg2, hg3, hg4, hg5, hg6, hg7, hg8, hg9, hg10, hg11⟩ := frozen12 b2
         obtain ⟨w9, hw9, hwh, hbb⟩ := set12 b2 (HAB.out.trans (hb8'.mono HAB.out.size)) (.int .i64 15) (.int .i64 p) (.int .i64 q) (.int .u16 0) (.int .u16 0) (.int .u16 0) (.slice G k g) (.slice none 0 0) (.int .i64 0) (.int .i64 0) (.int .i64 0) (.int .i64 0) rfl
         have ho8 := own_keep HAO.out hb8'
         have ho9 : w9.ownsRow w3.heap.size 4 1 (.slice G k g) k ((unb (zs.drop 6) k).map Value.bool) := by rw [← hw9]; exact (own_far (own_far (own_far (own_far (own_far (own_far (own_far (own_far (own_far (own_far (own_far (own_far ho8 ⟨w.heap.size, 0, none⟩ (show w.heap.size < w3.heap.size by omega) (.int .i64 15)) ⟨w.heap.size, 1, none⟩ (show w.heap.size < w3.heap.size by omega) (.int .i64 p)) ⟨w.heap.size, 2, none⟩ (show w.heap.size < w3.heap.size by omega) (.int .i64 q)) ⟨w.heap.size, 3, none⟩ (show w.heap.size < w3.heap.size by omega) (.int .u16 0)) ⟨w.heap.size, 4, none⟩ (show w.heap.size < w3.heap.size by omega) (.int .u16 0)) ⟨w.heap.size, 5, none⟩ (show w.heap.size < w3.heap.size by omega) (.int .u16 0)) ⟨w.heap.size, 6, none⟩ (show w.heap.size < w3.heap.size by omega) (.slice G k g)) ⟨w.heap.size, 7, none⟩ (show w.heap.size < w3.heap.size by omega) (.slice none 0 0)) ⟨w.heap.size, 8, none⟩ (show w.heap.size < w3.heap.size by omega) (.int .i64 0)) ⟨w.heap.size, 9, none⟩ (show w.heap.size < w3.heap.size by omega) (.int .i64 0)) ⟨w.heap.size, 10, none⟩ (show w.heap.size < w3.heap.size by omega) (.int .i64 0)) ⟨w.heap.size, 11, none⟩ (show w.heap.size < w3.heap.size by omega) (.int .i64 0))
         have HE := Lib.hid (cells12 hwh)
         have HBB := Lib.hid hbb
         have HW9 := Lib.hid hw9
         have HO9 := Lib.hid ho9
         clear hwh hbb hw9 b2 hb8' ho8 ho9))
    all_goals
      go_wp2
      try rw [HW9.out]
      obtain ⟨he0, he1, he2, he3, he4, he5, he6, he7, he8, he9, he10, he11⟩ := HE.out
      first
        | exact bodyPost_ret (v := .tuple #[.agg #[.int .i64 15, .int .i64 p, .int .i64 q, .int .u16 0, .int .u16 0, .int .u16 0, .slice G k g, .slice none 0 0, .int .i64 0, .int .i64 0, .int .i64 0, .int .i64 0], .bool bb]) (by simp [results, Try.results25, go_sem, he0, he1, he2, he3, he4, he5, he6, he7, he8, he9, he10, he11]) rfl ⟨_, _, rfl, (own_mono HO9.out (show w.heap.size ≤ w3.heap.size by omega)), HBB.out⟩
        | exact bodyPost_ret (v := .tuple #[.agg #[.int .i64 15, .int .i64 p, .int .i64 q, .int .u16 0, .int .u16 0, .int .u16 0, .slice G k g, .slice none 0 0, .int .i64 0, .int .i64 0, .int .i64 0, .int .i64 0], .bool bb]) (by simp [results, Try.results25, go_sem, he0, he1, he2, he3, he4, he5, he6, he7, he8, he9, he10, he11]) rfl ⟨_, _, rfl, (own_mono HO9.out (show w.heap.size ≤ w3.heap.size by omega)).drew, HBB.out.drew⟩

end Go.Proofs.Ytebpilfogdenjaa
