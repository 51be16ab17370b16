/- Lists of spans by numbers: busbarlaw0.Spans; the chapter's examples: busbarlaw12.awake. No statement is proved here. -/
import Derived.Test.YtlnmdepaobocnaaSLaw
import Derived.Test.YtlnmdepaobocnaaRAdd
import Derived.Test.YtlnmdepaobocnaaPAdd
namespace Go.Proofs.Ytlnmdepaobocnaa
open Go.ChangeShapes Go.WideShapes Go.ChangeAt Go.RowKit
set_option linter.unusedVariables false
set_option linter.unusedSimpArgs false

def In64S (zs : List Int) : Prop := ∀ x ∈ zs, -9223372036854775808 ≤ x ∧ x ≤ 9223372036854775807
theorem in64s_at {zs : List Int} (h : In64S zs) (k : Nat) (hk : k < zs.length) : -9223372036854775808 ≤ zs.getD k 0 ∧ zs.getD k 0 ≤ 9223372036854775807 := by
  have e : zs.getD k 0 = zs[k] := by simp [hk]
  rw [e]
  exact h _ (List.getElem_mem hk)

set_option maxRecDepth 100000 in
set_option maxHeartbeats 2000000 in
theorem lspans_any (A : Option Addr) (n c : Nat) (zs : List Int) (w : World) (hr : Row .i64 w w.heap.size A n zs) (hz : In64S zs) : Calls Try.prog 16 #[.slice A n c] w fun e w' => (∃ B m d l, e = .returned (.slice B m d) ∧ SO w' w.heap.size (.slice B m d) m l ∧ canonS l ∧ m ≤ 20) ∧ Below w.heap.size w w' := by
  have HR := Lib.hid hr
  have HZ := Lib.hid hz
  clear hr hz
  go_enter Try.func16, Try.ntmps16
  go_wp2
  go_loopw [3, 4] (fun l i wr => ∃ (j m : Nat) (A5 : Option Addr) (c5 : Nat) (ls : List Sp), j ≤ 20 ∧ m ≤ j ∧ l = .slice A5 m c5 ∧ i = .int .i64 (j : Int) ∧ Hid (SO wr w.heap.size (.slice A5 m c5) m ls) ∧ Hid (canonS ls) ∧ Hid (Below w.heap.size w wr)) (fun _ i _ => 20 - (intOf i).toNat)
  case atStart => exact ⟨0, 0, none, 0, [], by omega, by omega, rfl, rfl, Lib.hid (SO.nil _ _), Lib.hid trivial, Lib.hid (Below.refl _ _)⟩
  case round =>
    obtain ⟨j, m, A5, c5, ls, hj, hm, rfl, rfl, HO, HC, HB⟩ := hrel
    by_cases h1 : j < n
    · have h1' : (j : Int) < (n : Int) := by omega
      by_cases h2 : j < 20
      · have h2' : (j : Int) < 20 := by omega
        have hj0 : (0 : Int) ≤ (j : Int) := by omega
        obtain ⟨b, off, hA, hb, hc⟩ := (HR.out.below HB.out).2 (by omega)
        subst hA
        have hck := hc j h1
        obtain ⟨x, hx⟩ : ∃ x, zs.getD j 0 = x := ⟨_, rfl⟩
        rw [hx] at hck
        have hx2 : -9223372036854775808 ≤ x ∧ x ≤ 9223372036854775807 := by rw [← hx]; exact in64s_at HZ.out j (by rw [HR.out.1]; exact h1)
        obtain ⟨hx3, hx4⟩ := hx2
        have HSR := Lib.hid (spOf_right x)
        have CS := Lib.hid (fun W => lspan_any x W hx3 hx4)
        obtain ⟨⟨t, f, u⟩, hs⟩ : ∃ s, spOf x = s := ⟨_, rfl⟩
        rw [hs] at HSR CS
        clear hc hb hx hs
        go_wp2_with (first
          | (go_at_call 19
             (with_reducible refine (CS.out _).mono ?_)
             rintro e w1 ⟨rfl, hb1⟩
             have HO1 := Lib.hid (HO.out.keep hb1)
             have HB1 := Lib.hid (HB.out.trans (hb1.mono HB.out.size))
             clear hb1)
          | (go_at_call 23
             (with_reducible refine (radd_any A5 m c5 ls t f u w1 HO1.out.sl (by omega)).mono ?_)
             rintro e w2 ⟨⟨B, m2, d, rfl, ho2, hm2⟩, hb2⟩
             have HO2 := Lib.hid (ho2.mono HB1.out.size)
             have HB2 := Lib.hid (HB1.out.trans (hb2.mono HB1.out.size))
             clear ho2 hb2))
        exact ⟨⟨j + 1, m2, B, d, _, by omega, by omega, rfl, by go_num, HO2, Lib.hid (addS_canon HC.out HSR.out), HB2⟩, by simp [intOf]; omega⟩
      · have h2' : ¬ (j : Int) < 20 := by omega
        go_wp2
        go_ret
        exact ⟨⟨A5, m, c5, rfl, ls, HO.out, HC.out, by omega⟩, HB.out⟩
    · have h1' : ¬ (j : Int) < (n : Int) := by omega
      go_wp2
      go_ret
      exact ⟨⟨A5, m, c5, rfl, ls, HO.out, HC.out, by omega⟩, HB.out⟩

theorem addS_lit : addS [(2, 3, 5)] (2, 5, 7) = [(2, 3, 7)] := by decide +kernel
theorem cutS_lit : cutS [(2, 3, 7)] (2, 4, 5) = [(2, 3, 4), (2, 5, 7)] := by decide +kernel
theorem canon_lit (t f u : Int) (h : rightS (t, f, u)) : canonS [(t, f, u)] := ⟨h, fun y hy => (by cases hy), trivial⟩

set_option maxRecDepth 100000 in
set_option maxHeartbeats 2000000 in
theorem awake12_any (w : World) : Calls Try.prog 9 #[] w fun e w' => e = .returned (.bool true) ∧ Below w.heap.size w w' := by
  have hk : Below w.heap.size w (w.alloc (.cells #[.int .i64 2, .int .i64 3, .int .i64 5] 23)) := (Below.refl _ _).alloc (Nat.le_refl _) _
  have ca := padd_any (some ⟨w.heap.size, 0, none⟩) 1 1 [(2, 3, 5)] 2 5 7 (w.alloc (.cells #[.int .i64 2, .int .i64 3, .int .i64 5] 23)) (sl_one w 2 3 5 _) (by omega) (by omega) (canon_lit _ _ _ (by unfold rightS; dsimp only; omega)) (by unfold rightS; dsimp only; omega)
  rw [addS_lit] at ca
  have CA := Lib.hid ca
  have HK := Lib.hid hk
  clear ca hk
  go_enter Try.func9, Try.ntmps9
  go_wp2_with (first
    | (go_at_call 20
       (with_reducible refine CA.out.mono ?_)
       rintro e w1 ⟨⟨B, m, d, rfl, ho⟩, hb⟩
       obtain rfl : m = 1 := by simpa using ho.len.symm
       obtain ⟨b1, o1, rfl, hlt1, p0, p1, p2⟩ := ho.sl.at_ 0 (by omega)
       have cc := pcut_any (some ⟨b1, o1, none⟩) 1 d [(2, 3, 7)] 2 4 5 w1 ho.sl (by omega) ho.cap (canon_lit _ _ _ (by unfold rightS; dsimp only; omega)) (by unfold rightS; dsimp only; omega)
       rw [cutS_lit] at cc
       have CC := Lib.hid cc
       have HB1 := Lib.hid (HK.out.trans (hb.mono HK.out.size))
       have HL1 := Lib.hid hlt1
       clear cc hb ho hlt1)
    | (go_at_call 21
       (with_reducible refine CC.out.mono ?_)
       rintro e w2 ⟨⟨B2, m2, d2, rfl, ho2⟩, hb2⟩
       obtain rfl : m2 = 2 := by simpa using ho2.len.symm
       obtain ⟨b2, o2, rfl, hlt2, q0, q1, q2⟩ := ho2.sl.at_ 1 (by omega)
       have r0 := (hb2.cell (p := ⟨b1, o1 + 0 * 3, none⟩) HL1.out).trans p0
       have r1 := (hb2.cell (p := ⟨b1, o1 + 0 * 3 + 1, none⟩) HL1.out).trans p1
       have r2 := (hb2.cell (p := ⟨b1, o1 + 0 * 3 + 2, none⟩) HL1.out).trans p2
       simp only [Nat.zero_mul, Nat.add_zero, Nat.one_mul, List.getD_cons_zero, List.getD_cons_succ] at r0 r1 r2 q0 q1 q2
       have HB2 := Lib.hid (HB1.out.trans (hb2.mono HB1.out.size))
       clear ho2 hb2 hlt2 p0 p1 p2))
  go_ret
  exact ⟨rfl, HB2.out⟩

end Go.Proofs.Ytlnmdepaobocnaa
