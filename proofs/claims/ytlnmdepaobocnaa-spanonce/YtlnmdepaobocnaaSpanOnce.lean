/- Proved: for every list of ints and every int, busbarlaw12.SpanOnce returns true. Conditions: none. -/
import Derived.Test.YtlnmdepaobocnaaSRun
import Derived.Test.YtlnmdepaobocnaaPCov
namespace Go.Proofs.Ytlnmdepaobocnaa.spanOnce
open Go.ChangeShapes Go.WideShapes Go.ChangeAt Go.RowKit
open Go.ChangeMaps (open_string shut_string)
set_option linter.unusedVariables false


/-- The spans by these numbers, added one behind the other. -/
def allK (ks : List Int) : List Sp := addAll [] (ks.map spOf)
theorem rightK (ks : List Int) : ∀ s ∈ ks.map spOf, rightS s := fun s hs => by
  obtain ⟨x, _, rfl⟩ := List.mem_map.1 hs
  exact spOf_right x
theorem allK_canon (ks : List Int) : canonS (allK ks) := addAll_canon (l := []) trivial (rightK ks)
theorem allK_snoc {ks : List Int} {x : Int} {ls : List Sp} {s : Sp} (h : ls = allK ks) (hs : spOf x = s) : addS ls s = allK (ks ++ [x]) := by
  unfold allK at *
  rw [List.map_append, List.map_singleton, addAll_snoc, h, hs]
theorem allK_same {ks zs : List Int} (h : ∀ x ∈ ks, x ∈ zs) (h2 : ∀ x ∈ zs, x ∈ ks) : allK ks = allK zs := by
  unfold allK
  refine addAll_same (rightK ks) (rightK zs) fun s => ?_
  constructor
  · intro hs
    obtain ⟨x, hx, rfl⟩ := List.mem_map.1 hs
    exact List.mem_map.2 ⟨x, h x hx, rfl⟩
  · intro hs
    obtain ⟨x, hx, rfl⟩ := List.mem_map.1 hs
    exact List.mem_map.2 ⟨x, h2 x hx, rfl⟩
theorem allK_in {zs : List Int} {x : Int} (hx : x ∈ zs) {t f u : Int} (hs : spOf x = (t, f, u)) : ∀ a, inS (t, f, u) t a → hasS (allK zs) t a := fun a ha => by
  unfold allK
  exact (addAll_has (l := []) trivial (rightK zs) t a).2 (.inr ⟨(t, f, u), List.mem_map.2 ⟨x, hx, hs⟩, ha⟩)
theorem take_next (zs : List Int) (j : Nat) (h : j < zs.length) {x : Int} (hx : zs.getD j 0 = x) : zs.take (j + 1) = zs.take j ++ [x] := by
  rw [List.take_add_one, ← hx]
  simp [h]
theorem getD_in (zs : List Int) (j : Nat) (h : j < zs.length) {x : Int} (hx : zs.getD j 0 = x) : x ∈ zs := by
  have e : zs.getD j 0 = zs[j] := by simp [h]
  rw [← hx, e]
  exact List.getElem_mem h
theorem in_getD {zs : List Int} {x : Int} (h : x ∈ zs) : ∃ j, j < zs.length ∧ zs.getD j 0 = x := by
  obtain ⟨j, hj, e⟩ := List.getElem_of_mem h
  exact ⟨j, hj, by simp [hj, e]⟩

set_option maxRecDepth 100000 in
set_option maxHeartbeats 2000000 in
theorem once_long (A : Option Addr) (n c : Nat) (turn : Int) (w : World) (hn : 12 < n) :
    Calls Try.prog 7 #[.slice A n c, .int .i64 turn] w fun e w' => e = .returned (.bool true) ∧ Below w.heap.size w w' := by
  have hn' : (12 : Int) < (n : Int) := by omega
  go_enter Try.func7, Try.ntmps7
  go_wp2_with (first
    | (go_at_call 9; refine (awake12_any _).mono ?_; rintro e w1 ⟨rfl, hb⟩; have HB1 := Lib.hid hb; clear hb))
  go_ret
  exact ⟨rfl, HB1.out⟩

set_option maxRecDepth 100000 in
set_option maxHeartbeats 8000000 in
theorem once_main (A : Option Addr) (n c : Nat) (zs : List Int) (turn : Int) (w : World) (hr : Row .i64 w w.heap.size A n zs) (hz : In64S zs) (k0 : -9223372036854775808 ≤ turn) (k1 : turn ≤ 9223372036854775807) (hn : n ≤ 12) :
    Calls Try.prog 7 #[.slice A n c, .int .i64 turn] w fun e w' => e = .returned (.bool true) ∧ Below w.heap.size w w' := by
  have HR := Lib.hid hr
  have HZ := Lib.hid hz
  have hzl := hr.1
  obtain ⟨v, hv⟩ : ∃ a, turn % 12 = a := ⟨_, rfl⟩
  have CW := Lib.hid (fun W => within_lit12 turn 12 v W hv k0 k1 (by omega) (by omega))
  have hv0 : 0 ≤ v := by omega
  have hv1 : v < 12 := by omega
  have hn' : ¬ (12 : Int) < (n : Int) := by omega
  clear hr hz hv k0 k1
  go_enter Try.func7, Try.ntmps7
  go_wp2_with (first
    | (go_at_call 9; refine (awake12_any _).mono ?_; rintro e w1 ⟨rfl, hb⟩; have HB1 := Lib.hid hb; clear hb))
  go_loopw [5, 7] (fun a i wr => ∃ (j m : Nat) (A5 : Option Addr) (c5 : Nat) (ls : List Sp), j ≤ n ∧ m ≤ j ∧ a = .slice A5 m c5 ∧ i = .int .i64 (j : Int) ∧ Hid (ls = allK (zs.take j)) ∧ Hid (SO wr w1.heap.size (.slice A5 m c5) m ls) ∧ Hid (Below w.heap.size w wr) ∧ Hid (Below w1.heap.size w1 wr)) (fun _ i _ => n - (intOf i).toNat)
  case atStart => exact ⟨0, 0, none, 0, [], by omega, by omega, rfl, rfl, Lib.hid rfl, Lib.hid (SO.nil _ _), HB1, Lib.hid (Below.refl _ _)⟩
  case round =>
    obtain ⟨j, m, A5, c5, ls, hj, hm, rfl, rfl, HL, HO, HB, HV⟩ := hrel
    by_cases h1 : j < n
    · have h1' : (j : Int) < (n : Int) := by omega
      have hj0 : (0 : Int) ≤ (j : Int) := by omega
      have hjz : j < zs.length := by omega
      obtain ⟨b, off, hA, hb, hc⟩ := (HR.out.below HB.out).2 (by omega)
      subst hA
      have hck := hc j h1
      obtain ⟨x, hx⟩ : ∃ x, zs.getD j 0 = x := ⟨_, rfl⟩
      rw [hx] at hck
      have hx2 : -9223372036854775808 ≤ x ∧ x ≤ 9223372036854775807 := by rw [← hx]; exact in64s_at HZ.out j (by rw [HR.out.1]; exact h1)
      obtain ⟨hx3, hx4⟩ := hx2
      have HX := Lib.hid hx
      have HSR := Lib.hid (spOf_right x)
      have CS := Lib.hid (fun W => lspan_any x W hx3 hx4)
      obtain ⟨⟨t, f, u⟩, hs⟩ : ∃ s, spOf x = s := ⟨_, rfl⟩
      rw [hs] at HSR CS
      have HS := Lib.hid hs
      clear hc hb hx hs
      go_wp2_with (first
        | (go_at_call 19
           (with_reducible refine (CS.out _).mono ?_)
           rintro e w2 ⟨rfl, hb2⟩
           have HO1 := Lib.hid (HO.out.keep hb2)
           have HB2 := Lib.hid (HB.out.trans (hb2.mono HB.out.size))
           have HV2 := Lib.hid (HV.out.trans (hb2.mono HV.out.size))
           clear hb2)
        | (go_at_call 20
           (with_reducible refine (padd_any A5 m c5 ls t f u w2 HO1.out.sl (by omega) HO1.out.cap (by rw [HL.out]; exact allK_canon _) HSR.out).mono ?_)
           rintro e w3 ⟨⟨B3, m3, d3, rfl, ho3⟩, hb3⟩
           have HO3 : Hid (SO w3 w1.heap.size (.slice B3 m3 d3) m3 (addS ls (t, f, u))) := Lib.hid (ho3.mono (by first | exact HV2.out.size | exact Nat.zero_le _))
           have hm3 : m3 ≤ m + 1 := by
             have h1 := ho3.len
             have h2 := addS_len ls (t, f, u)
             have h3 := HO.out.len
             omega
           have HB3 := Lib.hid (HB2.out.trans (hb3.mono HB2.out.size))
           have HV3 := Lib.hid (HV2.out.trans (hb3.mono HV2.out.size))
           clear ho3 hb3))
      exact ⟨⟨j + 1, m3, B3, d3, _, by omega, by omega, rfl, by go_num, Lib.hid (by rw [take_next zs j hjz HX.out]; exact allK_snoc HL.out HS.out), HO3, HB3, HV3⟩, by simp [intOf]; omega⟩
    · have h1' : ¬ (j : Int) < (n : Int) := by omega
      obtain rfl : n = j := by omega
      have HLA : Hid (ls = allK zs) := Lib.hid (by have := HL.out; rwa [List.take_of_length_le (by omega)] at this)
      have HOA := HO
      have HBA := HB
      obtain ⟨AA, hAA⟩ : ∃ x, A5 = x := ⟨_, rfl⟩
      obtain ⟨ma, hma⟩ : ∃ x, m = x := ⟨_, rfl⟩
      obtain ⟨ca, hca⟩ : ∃ x, c5 = x := ⟨_, rfl⟩
      obtain ⟨la, hla⟩ : ∃ x, ls = x := ⟨_, rfl⟩
      rw [hla] at HLA HOA
      rw [hAA, hma, hca] at HOA ⊢
      rw [hma] at hm
      obtain ⟨W1, hW1⟩ : ∃ x, wr = x := ⟨_, rfl⟩
      rw [hW1] at HOA HBA ⊢
      clear HL HO HB HV hAA hca hla hma hW1
      go_wp2
      go_loopw [6, 8] (fun a i wr => ∃ (j m : Nat) (A5 : Option Addr) (c5 : Nat) (ls : List Sp) (js : List Int), j ≤ 2 * n ∧ m ≤ j ∧ a = .slice A5 m c5 ∧ i = .int .i64 (j : Int) ∧ Hid (ls = allK js) ∧ Hid (∀ x ∈ js, x ∈ zs) ∧ Hid (SO wr W1.heap.size (.slice A5 m c5) m ls) ∧ Hid (Below w.heap.size w wr) ∧ Hid (Below W1.heap.size W1 wr)) (fun _ i _ => 2 * n - (intOf i).toNat)
      case atStart => exact ⟨0, 0, none, 0, [], [], by omega, by omega, rfl, rfl, Lib.hid rfl, Lib.hid (fun x hx => by cases hx), Lib.hid (SO.nil _ _), HBA, Lib.hid (Below.refl _ _)⟩
      case round =>
        obtain ⟨j, m, A5, c5, ls, js, hj, hm', rfl, rfl, HL, HI, HO, HB, HV⟩ := hrel
        by_cases h1 : j < 2 * n
        · have h1' : (j : Int) < 2 * (n : Int) := by omega
          have hj0 : (0 : Int) ≤ (j : Int) := by omega
          have hn0 : (0 : Int) < (n : Int) := by omega
          obtain ⟨q, hq⟩ : ∃ q : Nat, (v + 5 * (j : Int)) % (n : Int) = (q : Int) := ⟨((v + 5 * (j : Int)) % (n : Int)).toNat, by
            have := Int.emod_nonneg (v + 5 * (j : Int)) (show (n : Int) ≠ 0 by omega)
            omega⟩
          have hq1 : q < n := by
            have := Int.emod_lt_of_pos (v + 5 * (j : Int)) hn0
            omega
          have hq2 : (q : Int) < (n : Int) := by omega
          have hq0 : (0 : Int) ≤ (q : Int) := by omega
          have hqz : q < zs.length := by omega
          have CV := Lib.hid (fun W => within_lit12 (v + 5 * (j : Int)) n q W hq (by omega) (by omega) (by omega) (by omega))
          clear hq
          obtain ⟨b, off, hA, hb, hc⟩ := (HR.out.below HB.out).2 (by omega)
          subst hA
          have hck := hc q hq1
          obtain ⟨x, hx⟩ : ∃ x, zs.getD q 0 = x := ⟨_, rfl⟩
          rw [hx] at hck
          have hx2 : -9223372036854775808 ≤ x ∧ x ≤ 9223372036854775807 := by rw [← hx]; exact in64s_at HZ.out q (by rw [HR.out.1]; exact hq1)
          obtain ⟨hx3, hx4⟩ := hx2
          have HX := Lib.hid hx
          have HSR := Lib.hid (spOf_right x)
          have CS := Lib.hid (fun W => lspan_any x W hx3 hx4)
          obtain ⟨⟨t, f, u⟩, hs⟩ : ∃ s, spOf x = s := ⟨_, rfl⟩
          rw [hs] at HSR CS
          have HS := Lib.hid hs
          clear hc hb hx hs
          go_wp2_with (first
            | (go_at_call 18; (with_reducible refine (CW.out _).mono ?_); rintro e w' ⟨rfl, rfl⟩)
            | (go_at_call 18; (with_reducible refine (CV.out _).mono ?_); rintro e w' ⟨rfl, rfl⟩)
            | (go_at_call 19
               (with_reducible refine (CS.out _).mono ?_)
               rintro e w2 ⟨rfl, hb2⟩
               have HO1 := Lib.hid (HO.out.keep hb2)
               have HB2 := Lib.hid (HB.out.trans (hb2.mono HB.out.size))
               have HV2 := Lib.hid (HV.out.trans (hb2.mono HV.out.size))
               clear hb2)
            | (go_at_call 20
               (with_reducible refine (padd_any A5 m c5 ls t f u w2 HO1.out.sl (by omega) HO1.out.cap (by rw [HL.out]; exact allK_canon _) HSR.out).mono ?_)
               rintro e w3 ⟨⟨B3, m3, d3, rfl, ho3⟩, hb3⟩
               have HO3 : Hid (SO w3 W1.heap.size (.slice B3 m3 d3) m3 (addS ls (t, f, u))) := Lib.hid (ho3.mono (by first | exact HV2.out.size | exact Nat.zero_le _))
               have hm3 : m3 ≤ m + 1 := by
                 have h1 := ho3.len
                 have h2 := addS_len ls (t, f, u)
                 have h3 := HO.out.len
                 omega
               have HB3 := Lib.hid (HB2.out.trans (hb3.mono HB2.out.size))
               have HV3 := Lib.hid (HV2.out.trans (hb3.mono HV2.out.size))
               clear ho3 hb3))
          exact ⟨⟨j + 1, m3, B3, d3, _, js ++ [x], by omega, by omega, rfl, by go_num, Lib.hid (allK_snoc HL.out HS.out), Lib.hid (fun y hy => by
            rcases List.mem_append.1 hy with hy | hy
            · exact HI.out y hy
            · rw [List.mem_singleton] at hy
              subst hy
              exact getD_in zs q hqz HX.out), HO3, HB3, HV3⟩, by simp [intOf]; omega⟩
        · have h1' : ¬ (j : Int) < 2 * (n : Int) := by omega
          have hm2 : m ≤ 24 := by omega
          obtain ⟨W2, hW2⟩ : ∃ x, wr = x := ⟨_, rfl⟩
          have HOA2 := Lib.hid (HOA.out.keep HV.out)
          rw [hW2] at HO HB HOA2 ⊢
          have HO2 := Lib.hid (HO.out.mono (Nat.zero_le _))
          have HL2 := HL
          have HI2 := HI
          have HB2 := HB
          obtain ⟨AB, hAB⟩ : ∃ x, A5 = x := ⟨_, rfl⟩
          obtain ⟨mb, hmb⟩ : ∃ x, m = x := ⟨_, rfl⟩
          obtain ⟨cb, hcb⟩ : ∃ x, c5 = x := ⟨_, rfl⟩
          obtain ⟨lb, hlb⟩ : ∃ x, ls = x := ⟨_, rfl⟩
          obtain ⟨jb, hjb⟩ : ∃ x, js = x := ⟨_, rfl⟩
          rw [hlb, hjb] at HL2
          rw [hjb] at HI2
          rw [hAB, hmb, hcb, hlb] at HO2
          rw [hAB, hmb, hcb] at ⊢
          rw [hmb] at hm2
          clear HL HI HO HB HV HOA hAB hmb hcb hlb hjb hW2
          go_wp2
          go_loopw [6, 9] (fun a i wr => ∃ (j m : Nat) (A5 : Option Addr) (c5 : Nat) (ls : List Sp) (js : List Int), j ≤ n ∧ m ≤ 24 + j ∧ a = .slice A5 m c5 ∧ i = .int .i64 (j : Int) ∧ Hid (ls = allK js) ∧ Hid (∀ x ∈ js, x ∈ zs) ∧ Hid (∀ k, n ≤ k + j → k < n → zs.getD k 0 ∈ js) ∧ Hid (SO wr 0 (.slice A5 m c5) m ls) ∧ Hid (Below w.heap.size w wr) ∧ Hid (Below W2.heap.size W2 wr)) (fun _ i _ => n - (intOf i).toNat)
          case atStart => exact ⟨0, mb, AB, cb, lb, jb, by omega, by omega, rfl, rfl, HL2, HI2, Lib.hid (fun k h1 h2 => by omega), HO2, HB2, Lib.hid (Below.refl _ _)⟩
          case round =>
            obtain ⟨j, m, A5, c5, ls, js, hj, hm', rfl, rfl, HL, HI, HE, HO, HB, HV⟩ := hrel
            by_cases h1 : j < n
            · have h1' : (j : Int) < (n : Int) := by omega
              have hj0 : (0 : Int) ≤ (j : Int) := by omega
              obtain ⟨q, hq⟩ : ∃ q : Nat, (n : Int) - 1 - (j : Int) = (q : Int) := ⟨n - 1 - j, by omega⟩
              have hqe : q + j + 1 = n := by omega
              have hq1 : q < n := by omega
              have hq2 : (q : Int) < (n : Int) := by omega
              have hq0 : (0 : Int) ≤ (q : Int) := by omega
              have hqz : q < zs.length := by omega
              obtain ⟨b, off, hA, hb, hc⟩ := (HR.out.below HB.out).2 (by omega)
              subst hA
              have hck := hc q hq1
              obtain ⟨x, hx⟩ : ∃ x, zs.getD q 0 = x := ⟨_, rfl⟩
              rw [hx] at hck
              have hx2 : -9223372036854775808 ≤ x ∧ x ≤ 9223372036854775807 := by rw [← hx]; exact in64s_at HZ.out q (by rw [HR.out.1]; exact hq1)
              obtain ⟨hx3, hx4⟩ := hx2
              have HX := Lib.hid hx
              have HSR := Lib.hid (spOf_right x)
              have CS := Lib.hid (fun W => lspan_any x W hx3 hx4)
              obtain ⟨⟨t, f, u⟩, hs⟩ : ∃ s, spOf x = s := ⟨_, rfl⟩
              rw [hs] at HSR CS
              have HS := Lib.hid hs
              clear hc hb hx hs
              go_wp2_with (first
                | (go_at_call 19
                   (with_reducible refine (CS.out _).mono ?_)
                   rintro e w2 ⟨rfl, hb2⟩
                   have HO1 := Lib.hid (HO.out.keep hb2)
                   have HB2 := Lib.hid (HB.out.trans (hb2.mono HB.out.size))
                   have HV2 := Lib.hid (HV.out.trans (hb2.mono HV.out.size))
                   clear hb2)
                | (go_at_call 20
                   (with_reducible refine (padd_any A5 m c5 ls t f u w2 HO1.out.sl (by omega) HO1.out.cap (by rw [HL.out]; exact allK_canon _) HSR.out).mono ?_)
                   rintro e w3 ⟨⟨B3, m3, d3, rfl, ho3⟩, hb3⟩
                   have HO3 : Hid (SO w3 0 (.slice B3 m3 d3) m3 (addS ls (t, f, u))) := Lib.hid (ho3.mono (by first | exact HV2.out.size | exact Nat.zero_le _))
                   have hm3 : m3 ≤ m + 1 := by
                     have h1 := ho3.len
                     have h2 := addS_len ls (t, f, u)
                     have h3 := HO.out.len
                     omega
                   have HB3 := Lib.hid (HB2.out.trans (hb3.mono HB2.out.size))
                   have HV3 := Lib.hid (HV2.out.trans (hb3.mono HV2.out.size))
                   clear ho3 hb3))
              exact ⟨⟨j + 1, m3, B3, d3, _, js ++ [x], by omega, by omega, rfl, by go_num, Lib.hid (allK_snoc HL.out HS.out), Lib.hid (fun y hy => by
                rcases List.mem_append.1 hy with hy | hy
                · exact HI.out y hy
                · rw [List.mem_singleton] at hy
                  subst hy
                  exact getD_in zs q hqz HX.out), Lib.hid (fun k hk1 hk2 => by
                by_cases hkq : k = q
                · subst hkq
                  rw [HX.out]
                  exact List.mem_append_right _ (List.mem_singleton.2 rfl)
                · exact List.mem_append_left _ (HE.out k (by omega) hk2)), HO3, HB3, HV3⟩, by simp [intOf]; omega⟩
            · have h1' : ¬ (j : Int) < (n : Int) := by omega
              have HLB : Hid (ls = la) := Lib.hid (by
                rw [HL.out, HLA.out]
                refine allK_same HI.out fun x hx => ?_
                obtain ⟨k, hk, e⟩ := in_getD hx
                rw [← e]
                exact HE.out k (by omega) (by omega))
              have HOA3 := Lib.hid (HOA2.out.keep HV.out)
              have HCA : Hid (canonS la) := Lib.hid (by rw [HLA.out]; exact allK_canon _)
              have hml := HOA3.out.len
              obtain rfl : m = ma := by rw [← HO.out.len, HLB.out, HOA3.out.len]
              have HSA := Lib.hid HOA3.out.sl
              have HSB : Hid (SL wr A5 m la) := Lib.hid (by have := HO.out.sl; rwa [HLB.out] at this)
              clear HO HL HI HE HL2 HI2 HO2 HOA2
              go_wp2_with (first
                | (go_at_call 22
                   (with_reducible refine (same_below AA A5 m ca c5 la wr HSA.out HSB.out (by omega)).mono ?_)
                   rintro e w4 ⟨rfl, hb4⟩
                   have HB4 := Lib.hid (HB.out.trans (hb4.mono HB.out.size))
                   have HO4 := Lib.hid (HOA3.out.keep hb4)
                   clear hb4)
                | (go_at_call 13
                   (with_reducible refine (pcanon_any AA m ca la true w4 HO4.out.sl (by simpa using adj_of_canon HO4.out.len HCA.out) (by omega)).mono ?_)
                   rintro e w5 ⟨rfl, hb5⟩
                   have HB5 := Lib.hid (HB4.out.trans (hb5.mono HB4.out.size))
                   have HO5 := Lib.hid (HO4.out.keep hb5)
                   clear hb5))
              obtain ⟨V5, hV5⟩ : ∃ x, w5 = x := ⟨_, rfl⟩
              rw [hV5] at HB5 HO5 ⊢
              clear hV5
              go_loopw [10] (fun i wr => ∃ (j : Nat), j ≤ n ∧ i = .int .i64 (j : Int) ∧ Hid (Below w.heap.size w wr) ∧ Hid (Below V5.heap.size V5 wr)) (fun i _ => n - (intOf i).toNat)
              case atStart => exact ⟨0, by omega, rfl, HB5, Lib.hid (Below.refl _ _)⟩
              case round =>
                obtain ⟨j, hj, rfl, HB, HV⟩ := hrel
                by_cases h1 : j < n
                · have h1' : (j : Int) < (n : Int) := by omega
                  have hj0 : (0 : Int) ≤ (j : Int) := by omega
                  have hjz : j < zs.length := by omega
                  obtain ⟨b, off, hA, hb, hc⟩ := (HR.out.below HB.out).2 (by omega)
                  subst hA
                  have hck := hc j h1
                  obtain ⟨x, hx⟩ : ∃ x, zs.getD j 0 = x := ⟨_, rfl⟩
                  rw [hx] at hck
                  have hx2 : -9223372036854775808 ≤ x ∧ x ≤ 9223372036854775807 := by rw [← hx]; exact in64s_at HZ.out j (by rw [HR.out.1]; exact h1)
                  obtain ⟨hx3, hx4⟩ := hx2
                  have HX := Lib.hid hx
                  have HSR := Lib.hid (spOf_right x)
                  have CS := Lib.hid (fun W => lspan_any x W hx3 hx4)
                  obtain ⟨⟨t, f, u⟩, hs⟩ : ∃ s, spOf x = s := ⟨_, rfl⟩
                  rw [hs] at HSR CS
                  have HS := Lib.hid hs
                  clear hc hb hx hs
                  go_wp2_with (first
                    | (go_at_call 19
                       (with_reducible refine (CS.out _).mono ?_)
                       rintro e w6 ⟨rfl, hb6⟩
                       have hz0 : WholeV (w6.alloc (.cells #[.int .i64 t, .int .i64 f, .int .i64 u] 23)) w6.heap.size 23 [.int .i64 t, .int .i64 f, .int .i64 u] := heap_alloc_new w6 _
                       have hal : Below w6.heap.size w6 (w6.alloc (.cells #[.int .i64 t, .int .i64 f, .int .i64 u] 23)) := (Below.refl _ _).alloc (Nat.le_refl _) _
                       have hb3 := HB.out.trans (hb6.mono HB.out.size)
                       have HB6 := Lib.hid (hb3.trans (hal.mono hb3.size))
                       have hv3 := HV.out.trans (hb6.mono HV.out.size)
                       have HV6 := Lib.hid (hv3.trans (hal.mono hv3.size))
                       have HW6 := Lib.hid hz0
                       clear hb6 hb3 hal hz0 hv3))
                  have hw6 := HW6.out
                  have HBV := HB6
                  have hl6 := (HO5.out.keep HV6.out)
                  obtain ⟨V, hV⟩ : ∃ V, w6.alloc (.cells #[.int .i64 t, .int .i64 f, .int .i64 u] 23) = V := ⟨_, rfl⟩
                  have HVV := HV6
                  rw [hV] at hw6 HBV hl6 HVV ⊢
                  obtain ⟨g, hg⟩ : ∃ g, w6.heap.size = g := ⟨_, rfl⟩
                  rw [hg] at hw6 ⊢
                  clear hV hg HB6 HV6 HW6
                  have HLV : Hid (∀ X, Below V.heap.size V X → SL X AA m la) := Lib.hid fun X hX => (hl6.keep hX).sl
                  have HWV : Hid (∀ X, Below V.heap.size V X → WholeV X g 23 [.int .i64 t, .int .i64 f, .int .i64 u]) := Lib.hid fun X hX => hw6.below hX hw6.lt
                  have HMC : Hid (m ≤ ca) := Lib.hid hl6.cap
                  have KS : Hid (∀ X, Below V.heap.size V X → X.cell? ⟨g, 0, none⟩ = some (.int .i64 t) ∧ X.cell? ⟨g, 1, none⟩ = some (.int .i64 f) ∧ X.cell? ⟨g, 2, none⟩ = some (.int .i64 u) ∧ Below V.heap.size V X) := Lib.hid fun X hX => ⟨(HWV.out X hX).cell 0, (HWV.out X hX).cell 1, (HWV.out X hX).cell 2, hX⟩
                  have KB : Hid (∀ X, (X.cell? ⟨g, 0, none⟩ = some (.int .i64 t) ∧ X.cell? ⟨g, 1, none⟩ = some (.int .i64 f) ∧ X.cell? ⟨g, 2, none⟩ = some (.int .i64 u) ∧ Below V.heap.size V X) → Below V.heap.size V X) := Lib.hid fun X hs => hs.2.2.2
                  have KT : Hid (∀ X X', (X.cell? ⟨g, 0, none⟩ = some (.int .i64 t) ∧ X.cell? ⟨g, 1, none⟩ = some (.int .i64 f) ∧ X.cell? ⟨g, 2, none⟩ = some (.int .i64 u) ∧ Below V.heap.size V X) → Below X.heap.size X X' → X'.cell? ⟨g, 0, none⟩ = some (.int .i64 t) ∧ X'.cell? ⟨g, 1, none⟩ = some (.int .i64 f) ∧ X'.cell? ⟨g, 2, none⟩ = some (.int .i64 u) ∧ Below V.heap.size V X') := Lib.hid fun X X' hs hb => KS.out _ (hs.2.2.2.trans (hb.mono hs.2.2.2.size))
                  obtain ⟨o1, o2, o3, o4⟩ := once HCA.out HSR.out (by rw [HLA.out]; exact allK_in (getD_in zs j hjz HX.out) HS.out)
                  have hlc := cutS_len la (t, f, u)
                  have hlt : f < u := by have := HSR.out; unfold rightS at this; exact this.2.2.2.2
                  have HC1 : Hid (∀ X, Below V.heap.size V X → Calls Try.prog 28 #[.slice AA m ca, .agg #[.int .i64 t, .int .i64 f, .int .i64 u]] X fun e w' => e = .returned (.bool true) ∧ Below X.heap.size X w') := Lib.hid fun X hX => pcovers_any AA m ca la t f u true X (HLV.out X hX) (by omega) HMC.out HCA.out (.inl ⟨hlt, by simpa using o1⟩)
                  have HC2 : Hid (∀ X, Below V.heap.size V X → Calls Try.prog 30 #[.slice AA m ca, .agg #[.int .i64 t, .int .i64 f, .int .i64 u]] X fun e w' => e = .returned (.bool true) ∧ Below X.heap.size X w') := Lib.hid fun X hX => pmeets_any AA m ca la t f u true X (HLV.out X hX) (by omega) HMC.out HCA.out (.inl ⟨hlt, by simpa using o2⟩)
                  have HC3 : Hid (∀ X, Below V.heap.size V X → Calls Try.prog 21 #[.slice AA m ca, .agg #[.int .i64 t, .int .i64 f, .int .i64 u]] X fun e w' => (∃ B' m' d', e = .returned (.slice B' m' d') ∧ SO w' X.heap.size (.slice B' m' d') m' (cutS la (t, f, u))) ∧ Below X.heap.size X w') := Lib.hid fun X hX => pcut_any AA m ca la t f u X (HLV.out X hX) (by omega) HMC.out HCA.out HSR.out
                  have HC4 : Hid (∀ (X : World) (B' : Option Addr) (m' d' b : Nat), SO X b (.slice B' m' d') m' (cutS la (t, f, u)) → Calls Try.prog 30 #[.slice B' m' d', .agg #[.int .i64 t, .int .i64 f, .int .i64 u]] X fun e w' => e = .returned (.bool false) ∧ Below X.heap.size X w') := Lib.hid fun X B' m' d' b ho => pmeets_any B' m' d' _ t f u false X ho.sl (by have := ho.len; omega) ho.cap (cutS_canon HCA.out HSR.out) (.inl ⟨hlt, by simpa using o3⟩)
                  have HC6 : Hid (∀ (X : World) (B' : Option Addr) (m' d' b : Nat), SO X b (.slice B' m' d') m' (cutS la (t, f, u)) → Calls Try.prog 20 #[.slice B' m' d', .agg #[.int .i64 t, .int .i64 f, .int .i64 u]] X fun e w' => (∃ B' d', e = .returned (.slice B' m d') ∧ SO w' X.heap.size (.slice B' m d') m la) ∧ Below X.heap.size X w') := Lib.hid fun X B' m' d' b ho => by
                    refine (padd_any B' m' d' _ t f u X ho.sl (by have := ho.len; omega) ho.cap (cutS_canon HCA.out HSR.out) HSR.out).mono ?_
                    rintro e w' ⟨⟨B2, m2, d2, he, h2⟩, hb⟩
                    rw [o4] at h2
                    obtain rfl : m2 = m := by rw [← h2.len, hml]
                    exact ⟨⟨B2, d2, he, h2⟩, hb⟩
                  have HC7 : Hid (∀ (X : World) (B' : Option Addr) (d' : Nat), SL X B' m la → Below V.heap.size V X → Calls Try.prog 22 #[.slice B' m d', .slice AA m ca] X fun e w' => e = .returned (.bool true) ∧ Below X.heap.size X w') := Lib.hid fun X B' d' h1 hX => same_below B' AA m d' ca la X h1 (HLV.out X hX) (by omega)
                  clear o1 o2 o3 o4 hlc hlt hl6 hw6
                  go_region_held3 (fun X => X.cell? ⟨g, 0, none⟩ = some (.int .i64 t) ∧ X.cell? ⟨g, 1, none⟩ = some (.int .i64 f) ∧ X.cell? ⟨g, 2, none⟩ = some (.int .i64 u) ∧ Below V.heap.size V X)
                    (first
                      | exact KS.out _ (Below.refl _ _).drew
                      | exact KT.out _ _ (by assumption) kA
                      | exact KT.out _ _ (by assumption) kB
                      | exact KT.out _ _ (by assumption) kC
                      | exact KT.out _ _ (by assumption) kD
                      | exact KT.out _ _ (by assumption) kE
                      | exact KT.out _ _ (by assumption) kF)
                    (first
                      | (go_at_call 28
                         (with_reducible refine (HC1.out _ (KB.out _ ?_)).mono ?_)
                         · assumption
                         rintro e xA ⟨rfl, kA⟩)
                      | (go_at_call 30
                         (with_reducible refine (HC2.out _ (KB.out _ ?_)).mono ?_)
                         · assumption
                         rintro e xB ⟨rfl, kB⟩)
                      | (go_at_call 21
                         (with_reducible refine (HC3.out _ (KB.out _ ?_)).mono ?_)
                         · assumption
                         rintro e xC ⟨⟨BC, mC, dC, rfl, hoC⟩, kC⟩)
                      | (go_at_call 30
                         (with_reducible refine (HC4.out _ _ _ _ _ hoC).mono ?_)
                         rintro e xD ⟨rfl, kD⟩)
                      | (go_at_call 20
                         (with_reducible refine (HC6.out _ _ _ _ _ hoC).mono ?_)
                         rintro e xE ⟨⟨BE, dE, rfl, hoE⟩, kE⟩)
                      | (go_at_call 22
                         (with_reducible refine (HC7.out _ _ _ hoE.sl (KB.out _ ?_)).mono ?_)
                         · assumption
                         rintro e xF ⟨rfl, kF⟩))
                  all_goals
                    have hvx := KB.out _ (by assumption)
                    go_wp2
                    exact ⟨⟨j + 1, by omega, by go_num, Lib.hid (HBV.out.trans (hvx.mono HBV.out.size)), Lib.hid (HVV.out.trans (hvx.mono HVV.out.size))⟩, by simp [intOf]; omega⟩
                · have h1' : ¬ (j : Int) < (n : Int) := by omega
                  go_wp2
                  go_ret
                  exact ⟨rfl, HB.out⟩
theorem walk (a0 : Option Addr) (len0 cap0 : Nat) (z0 : List Int) (a1 : Int) (w : World) (w0 : IsRow .i64 w a0 len0 cap0 z0) (w1 : (Lit.int .i64 a1).wf = true) :
    Calls Try.prog 7 #[.slice a0 len0 cap0, .int .i64 a1] w fun e w' => e = .returned (.bool true) ∧ Below w.heap.size w w' := by
  by_cases hn : len0 ≤ 12
  · exact once_main a0 len0 cap0 _ a1 w w0.row (fun k hk => bounds_i64 (w0.wf k hk)) (bounds_i64 w1).1 (bounds_i64 w1).2 hn
  · exact once_long a0 len0 cap0 a1 w (by omega)

/-! ### THE ROW's STEP: WRITTEN OUT: LEAVE IT -/
set_option maxRecDepth 100000 in
theorem lifted (os : Os) (started : os.Started) (H : Type) (enc : TypeId × Value → H) :
    ReturnsInHanded {} Try.checked os 7 .any (Rows.spanOnceSpec.pre6 enc Try.prog Try.f7 Rows.spanOnceRow.domain false) (Rows.spanOnceSpec.post enc Try.prog Try.f7 false true false false) := by
  refine returnsInHanded_of_change (C := Try.checked) own started (by kernel_rfl) Try.func7
    (ChangeSpec.witness6 (enc := enc) (C := Try.checked) false ⟨#[], #[.slice none 0 0, .int .i64 0], []⟩ 8 (by kernel_rfl) (by kernel_rfl) (by kernel_rfl) (by kernel_rfl)) ?_
  intro W base args ds gs before hval0 hW hcnd _
  have hval : ∀ (j : Nat) t v, Try.f7.params[j]? = some t → args[j]? = some v → Value.okWide Try.prog W .any base t v := hval0
  have hW' := hW
  obtain ⟨p, q, hA0, hV, rfl, hfz, hnd⟩ := hW
  have hA : DataW.TrodAll enc Try.prog W 0 (fun _ => true) true Try.f7.params.toList args.toList ds p := hA0
  rw [Try.params7] at hA hval
  obtain ⟨v0, vs0, d0, ds0, p0, q0, hargs, rfl, rfl, h0, r0⟩ := trodAll_cons hA
  obtain ⟨v1, vs1, d1, ds1, p1, q1, rfl, rfl, rfl, h1, r1⟩ := trodAll_cons r0
  obtain ⟨rfl, rfl, rfl⟩ := trodAll_nil r1
  obtain rfl : args = #[v0, v1] := by cases args; simp_all
  obtain ⟨rfl, rfl⟩ := trodVars_none hV
  obtain ⟨a0, len0, cap0, rfl⟩ := okWide_slice Try.underlying25 (hval 0 25 v0 rfl rfl)
  have k0 := h0
  have lt0 : ∀ x ∈ p0, x.block < W.heap.size := by obtain ⟨m, hm⟩ := k0; exact DataW.trod_lt m _ _ _ hm
  obtain ⟨z0, w0⟩ : ∃ zs, IsRow .i64 W a0 len0 cap0 zs := by
    obtain ⟨fuel, hf⟩ := h0
    rcases open_ints Try.underlying25 Try.underlying3 (by kernel_rfl) hf with ⟨hcs, _⟩ | ⟨x, l, c, zs, hcs, _, hl, hm, hz, _, hcell, hwz⟩
    · simp [Value.cells] at hcs
      obtain ⟨rfl, rfl, rfl⟩ := hcs
      exact ⟨[], .inl ⟨rfl, rfl, rfl, rfl⟩⟩
    · simp [Value.cells] at hcs
      obtain ⟨rfl, rfl, rfl⟩ := hcs
      exact ⟨zs, .inr ⟨_, rfl, hl, hm, by simpa using hz, hcell, hwz⟩⟩
  obtain ⟨a1, rfl, rfl, rfl, w1⟩ := open_int Try.underlying3 (hval 1 3 v1 rfl rfl) h1
  clear hA0 hval0
  refine (walk a0 len0 cap0 z0 a1 W w0 w1).mono fun e W' ⟨he, bel⟩ => ?_
  subst he
  exact ⟨_, rfl, _, _, _, [], _, [], hW', trodAll_mk1 (shut_bool Try.underlying4 _), (trodAll_cons_mk (Below.trod laidOut (by kernel_rfl) (of_decide_eq_true (by kernel_rfl)) k0 bel lt0) (trodAll_cons_mk (shut_int Try.underlying3 w1) trodAll_mk0)), rfl, bel.frame _, fun h => by cases h⟩

theorem over : Rows.spanOnceRow.holds Try.pinned (OpenSpec.ofChange Rows.spanOnceSpec) :=
  OpenClaim.holds_of_wide 7 Try.f7 rfl rfl rfl rfl rfl rfl rfl ⟨rfl, rfl, rfl, rfl, rfl⟩ rfl rfl rfl rfl rfl (by kernel_rfl) Try.func7 (by kernel_rfl)
    (of_decide_eq_true (by kernel_rfl)) (by unfold Func.isWrapper; first | (rw [if_pos (by decide +kernel)]; kernel_rfl) | (rw [if_neg (by decide +kernel)]; exact ⟨rfl, rfl⟩))
    (fun os started H enc _ => lifted os started H enc)

/-- ████ THE STATEMENT ████ -/
theorem proved : Rows.SpanOnceSaid := over
#print axioms proved
end Go.Proofs.Ytlnmdepaobocnaa.spanOnce
