/- The document's words, behind one another; what its AskBytes lays first. -/
import Derived.Test.YthmendcdfhlkkaaAskWhole
import Derived.Test.YthmendcdfhlkkaaStep
import Derived.Test.YthmendcdfhlkkaaRefBits
namespace Go.Proofs.Ythmendcdfhlkkaa
open Go.ChangeShapes Go.WideShapes Go.ChangeAt Go.RowKit
set_option linter.unusedVariables false
set_option linter.unusedSimpArgs false

theorem two_on (A : Option Addr) (n c : Nat) (vs : List Value) (zs : List Int) (v : Int) (w : World) (m : Nat) (ys : List Int) (hm : n + 2 = m) (hz : vs = zs.map (Value.int .u8)) (hy : zs ++ [v / 256, v % 256] = ys) (hr : RowV w w.heap.size A n vs) (v0 : 0 ≤ v) (v1 : v ≤ 65535) (hn : n ≤ 100000) :
    Calls Try.prog 80 #[.slice A n c, .int .i64 v] w fun e w' => ∃ g cap, e = .returned (.slice (some ⟨g, 0, none⟩) m cap) ∧ w'.ownsRow w.heap.size 5 1 (.slice (some ⟨g, 0, none⟩) m cap) m (ys.map (Value.int .u8)) ∧ Below w.heap.size w w' := by
  subst hm hy hz
  exact reftwo A n c zs v w hr.ints v0 v1 hn

theorem rwords (A : Option Addr) (n c : Nat) (zs : List Int) (B : Option Addr) (m d : Nat) (ws : List Int) (w : World) (hr : Row .u8 w w.heap.size A n zs) (hw : Row .u16 w w.heap.size B m ws) (hx : Words ws) (hn : n ≤ 1000) (hm : m ≤ 1000) :
    Calls Try.prog 83 #[.slice A n c, .slice B m d] w fun e w' => ∃ C cap, e = .returned (.slice C (n + 2 * m) cap) ∧ Row .u8 w' w'.heap.size C (n + 2 * m) (zs ++ flat ws) ∧ Below w.heap.size w w' := by
  have HR := Lib.hid hr
  have HW := Lib.hid hw
  have HX := Lib.hid hx
  have HN := Lib.hid hw.1
  clear hr hw hx
  go_enter Try.func83, Try.ntmps83
  go_wp2
  go_loopw [0, 5] (fun b i wr => ∃ (k : Nat) (C : Option Addr) (cc : Nat), k ≤ m ∧ i = .int .i64 (k : Int) ∧ b = .slice C (n + 2 * k) cc ∧ Hid (Row .u8 wr wr.heap.size C (n + 2 * k) (zs ++ flat (ws.take k))) ∧ Hid (Below w.heap.size w wr)) (fun _ i _ => m - (intOf i).toNat)
  case atStart =>
    refine ⟨0, A, c, by omega, rfl, rfl, ?_, Below.refl _ _⟩
    have h := HR.out
    have e : zs ++ flat (ws.take 0) = zs := by simp [flat]
    show Row .u8 w w.heap.size A n _
    rw [e]
    exact h
  case round =>
    obtain ⟨k, C, cc, hk, rfl, rfl, HK, HB⟩ := hrel
    by_cases hlt : k < m
    · obtain ⟨b, off, rfl, hb, hcell⟩ := HW.out.2 (by omega)
      obtain ⟨z, hz⟩ : ∃ z, ws.getD k 0 = z := ⟨_, rfl⟩
      have hcl : wr.cell? ⟨b, off + k, none⟩ = some (.int .u16 z) := by rw [HB.out.cell hb, hcell k hlt, hz]
      have hbd := HX.out.at_ k
      change 0 ≤ ws.getD k 0 ∧ ws.getD k 0 ≤ 65535 at hbd
      rw [hz] at hbd
      have z0 := hbd.1
      have z1 := hbd.2
      have HT : Hid (zs ++ flat (ws.take k) ++ [z / 256, z % 256] = zs ++ flat (ws.take (k + 1))) := by
        rw [flat_take ws k (by rw [HN.out]; exact hlt), hz, List.append_assoc]; rfl
      have hi1 : (k : Int) < (m : Int) := by omega
      have hlen : n + 2 * k + 2 = n + 2 * (k + 1) := by omega
      have HLen := Lib.hid hlen
      clear hcell hz hbd hlen
      go_wp2_with (go_at_call 80; (with_reducible refine (two_on C (n + 2 * k) cc _ _ z _ _ _ HLen.out rfl HT.out HK.out.v z0 z1 (by omega)).mono ?_); rintro e w2 ⟨g2, c2, rfl, ho2, hb2⟩; have HO2 := Lib.hid ho2; have HB2 := Lib.hid hb2; clear ho2 hb2)
      go_roundw
      case rel => exact ⟨k + 1, some ⟨g2, 0, none⟩, c2, by omega, by go_num, rfl, (own_row HO2.out).ints, HB.out.trans (HB2.out.mono HB.out.size)⟩
      case measure => simp [intOf]; omega
    · obtain rfl : m = k := by omega
      go_wp2
      go_ret
      refine ⟨C, cc, rfl, ?_, HB.out⟩
      have h := HK.out
      rwa [List.take_of_length_le (by rw [HN.out]; omega)] at h

end Go.Proofs.Ythmendcdfhlkkaa
