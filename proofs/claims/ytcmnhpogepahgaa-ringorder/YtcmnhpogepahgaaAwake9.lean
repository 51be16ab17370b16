/- busbarlaw9: some; chapter 9's example. -/
import Derived.Test.YtcmnhpogepahgaaRing4
import Derived.Test.YtcmnhpogepahgaaWithin
namespace Go.Proofs.Ytcmnhpogepahgaa
open Go.ChangeShapes Go.WideShapes Go.ChangeAt Go.RowKit
set_option linter.unusedVariables false
set_option linter.unusedSimpArgs false

/-- So many bytes, from a number on. -/
def someL (fr : Int) (n : Nat) : List Int := (List.range n).map fun (i : Nat) => (fr + (i : Int)) % 256
theorem someL_length (fr : Int) (n : Nat) : (someL fr n).length = n := by simp [someL]
theorem someL_succ (fr : Int) (n : Nat) : someL fr (n + 1) = someL fr n ++ [(fr + (n : Int)) % 256] := by simp [someL, List.range_succ]

/-- What some leaves. -/
def SomeRow (fr : Int) (n : Nat) (w : World) (e : Ending) (w' : World) : Prop := ∃ A c, e = .returned (.slice A n c) ∧ w'.ownsRow w.heap.size 5 1 (.slice A n c) n ((someL fr n).map (Value.int .u8)) ∧ Below w.heap.size w w'

set_option maxRecDepth 100000 in
set_option maxHeartbeats 1000000 in
theorem some_any (fr n : Int) (N : Nat) (w : World) (h0 : 0 ≤ fr) (h1 : fr ≤ 1000000) (hn : (n < 0 ∧ N = 0) ∨ n = (N : Int)) (hN : N ≤ 1000) :
    Calls Try.prog 37 #[.int .i64 fr, .int .i64 n] w (SomeRow fr N w) := by
  have hn1 : -9223372036854775808 ≤ n ∨ True := .inr trivial
  have HN := Lib.hid hn
  clear hn hn1
  go_enter Try.func37, Try.ntmps37
  go_wp2
  go_loopw [5, 6] (fun v i wr => ∃ k : Nat, k ≤ N ∧ i = .int .i64 (k : Int) ∧ ∃ A c, v = .slice A k c ∧ Hid (wr.ownsRow w.heap.size 5 1 (.slice A k c) k ((someL fr k).map (Value.int .u8))) ∧ Hid (Below w.heap.size w wr)) (fun _ i _ => N - (intOf i).toNat)
  case atStart => exact ⟨0, by omega, rfl, none, 0, rfl, own_none _ _ _, Below.refl _ _⟩
  case round =>
    obtain ⟨k, hk, rfl, A, c, rfl, HO, HB⟩ := hrel
    by_cases hlt : k < N
    · have hi : (k : Int) < n := by have := HN.out; omega
      have hwr : IntKind.u8.wrap (fr + (k : Int)) = (fr + (k : Int)) % 256 := by rw [IntKind.wrap_u8]
      obtain ⟨x, hx⟩ : ∃ x, (fr + (k : Int)) % 256 = x := ⟨_, rfl⟩
      rw [hx] at hwr
      have HX := Lib.hid hx
      clear hx
      have HO1 : Hid ((wr.alloc (.cells #[.int .u8 x] 5)).ownsRow w.heap.size 5 1 (.slice A k c) k ((someL fr k).map (Value.int .u8))) := HO.out.alloc _
      have HR1 : Hid (RowV (wr.alloc (.cells #[.int .u8 x] 5)) (wr.alloc (.cells #[.int .u8 x] 5)).heap.size (some ⟨wr.heap.size, 0, none⟩) 1 [.int .u8 x]) := built_row wr _ [.int .u8 x] _ (Below.refl _ _)
      have HB1 : Hid (Below w.heap.size w (wr.alloc (.cells #[.int .u8 x] 5))) := HB.out.alloc HB.out.size _
      go_wp2_with (
        (at_builtin
         refine wpList_append_row _ (o := ⟨some 18, _, _, _, _, _⟩) rfl (.tmp 12) (.tmp 17) 33 rfl w.heap.size 5 (.int .u8 0) 1 Try.underlying33 info5 rfl (.slice A k c) k _ rfl HO1.out _ (some ⟨wr.heap.size, 0, none⟩) 1 1 _ rfl HR1.out (by intro u hu; rw [List.mem_singleton.1 hu]; rfl) (by omega) (by omega) HB1.out.size ?_
         intro v2 w2 hown2 hg2 hat2
         obtain ⟨A2, c2, rfl⟩ := own_slice hown2
         have HO2 := Lib.hid hown2
         have HB2 := Lib.hid (below_append HB1.out HO1.out hg2 HB1.out.size)
         clear hown2 hg2 hat2))
      go_roundw
      case rel =>
        refine ⟨k + 1, by omega, by go_num, A2, c2, rfl, ?_, HB2⟩
        have h := HO2.out
        rw [show ([Value.int .u8 x] : List Value) = [x].map (Value.int .u8) from rfl, ← List.map_append, ← HX.out, ← someL_succ] at h
        exact h
      case measure => simp [intOf]; omega
    · have hi : ¬ (k : Int) < n := by have := HN.out; omega
      go_wp2
      go_ret
      obtain rfl : k = N := by omega
      exact ⟨A, c, rfl, HO.out, HB.out⟩

theorem below_gp {B0 : Nat} {w0 w w' : World} {g p : Nat} (hb : Below B0 w0 w) (hB : B0 ≤ w.heap.size) (ho : Off (GP g p) w w') (hg : B0 ≤ g) (hp : B0 ≤ p) : Below B0 w0 w' :=
  hb.trans (ho.below hB (fun k hk h => by rcases h with h | h <;> omega))

/-- Bytes that were built. -/
theorem built_off (W : World) (S : Nat → Prop) (zs : List Int) (hS : ¬ S W.heap.size) : RowOff (W.alloc (.cells (zs.map (Value.int .u8)).toArray 5)) S (some ⟨W.heap.size, 0, none⟩) zs.length zs := by
  have h : Whole .u8 (W.alloc (.cells (zs.map (Value.int .u8)).toArray 5)) W.heap.size 5 (zs ++ []) := by rw [List.append_nil]; exact heap_alloc_new W _
  exact RowOff.of_whole h rfl hS

set_option maxRecDepth 100000 in
set_option maxHeartbeats 1000000 in
theorem awake_any (w : World) : Calls Try.prog 33 #[] w fun e w' => e = .returned (.bool true) ∧ Below w.heap.size w w' := by
  go_enter Try.func33, Try.ntmps33
  go_wp2_with (first
    | (go_at_call 34
       refine (new_any 3 3 _ (by omega) (by omega) (by decide)).mono ?_
       rintro e w1 ⟨g, p, rfl, hr, hg, hp, hb⟩
       have HR1 := Lib.hid hr
       have HB1 := Lib.hid hb
       have HGP := Lib.hid (And.intro hg hp)
       have HLT := Lib.hid hr.lt
       have C2 := Lib.hid (put_any (w1.alloc (.cells #[.int .u8 1, .int .u8 2, .int .u8 3, .int .u8 4] 5)) g p 3 0 [] (some ⟨w1.heap.size, 0, none⟩) 4 4 [1, 2, 3, 4] 3 (hr.below ((Below.refl _ _).alloc (Nat.le_refl _) _)) (built_off w1 _ [1, 2, 3, 4] (by have := hr.lt; unfold GP; omega)) (by omega) (by omega) (by decide))
       clear hr hg hp hb)
    | (go_at_call 38
       (with_reducible refine C2.out.mono ?_)
       rintro e w2 ⟨rfl, hr, ho⟩
       have HB2 : Hid (Below w.heap.size w w2) := below_gp (HB1.out.alloc HB1.out.size _) (by have := HB1.out.size; simp; omega) ho HGP.out.1 HGP.out.2
       have HLT2 := Lib.hid hr.lt
       have C3 := Lib.hid (take_any w2 g p 3 0 _ 2 2 hr (.inr (.inl ⟨by omega, rfl, by decide⟩)))
       clear hr ho)
    | (go_at_call 42
       (with_reducible refine C3.out.mono ?_)
       rintro e w3 ⟨b, rfl, hbb, hW, hr, ho⟩
       have HB3 : Hid (Below w.heap.size w w3) := below_gp HB2.out HB2.out.size ho HGP.out.1 HGP.out.2
       have hnb : ¬ GP g p b := by have := HLT2.out; unfold GP; omega
       have C4 := Lib.hid (put_any (w3.alloc (.cells #[.int .u8 5] 5)) g p 3 _ _ (some ⟨w3.heap.size, 0, none⟩) 1 1 [5] 1 (hr.below ((Below.refl _ _).alloc (Nat.le_refl _) _)) (built_off w3 _ [5] (by have := hr.lt; unfold GP; omega)) (by omega) (by omega) (by decide))
       have HW3 := Lib.hid hW
       have HNB := Lib.hid hnb
       clear hr ho hbb hW hnb)
    | (go_at_call 38
       (with_reducible refine C4.out.mono ?_)
       rintro e w4 ⟨rfl, hr, ho⟩
       have HB4 : Hid (Below w.heap.size w w4) := below_gp (HB3.out.alloc HB3.out.size _) (by have := HB3.out.size; simp; omega) ho HGP.out.1 HGP.out.2
       have hW4 : Whole .u8 w4 b 5 _ := ho.wholeI (HW3.out.below ((Below.refl _ _).alloc (Nat.le_refl _) _) HW3.out.lt) HNB.out
       have c41 : w4.cell? ⟨b, 1, none⟩ = some (.int .u8 2) := hW4.cell 1 (by decide)
       have C5 := Lib.hid (len_any w4 g p 3 _ _ hr)
       clear hr ho hW4)
    | (go_at_call 44
       (with_reducible refine C5.out.mono ?_)
       rintro e w5 ⟨rfl, rfl⟩))
  go_ret
  exact ⟨rfl, HB4.out⟩

end Go.Proofs.Ytcmnhpogepahgaa
