/- Package ring: Put and Look of anything; Take. -/
import Derived.Test.YthmendcdfhlkkaaRing3
namespace Go.Proofs.Ythmendcdfhlkkaa
open Go.ChangeShapes Go.WideShapes Go.ChangeAt Go.RowKit
set_option linter.unusedVariables false
set_option linter.unusedSimpArgs false

/-- As many of q as n asks for. -/
def Cnt (n : Int) (q m : Nat) : Prop := (n < 0 ∧ m = 0) ∨ (0 ≤ n ∧ n = (m : Int) ∧ m ≤ q) ∨ ((q : Int) < n ∧ m = q)
theorem cnt_some (n : Int) (q : Nat) : ∃ m, Cnt n q m := by
  by_cases h : n < 0
  · exact ⟨0, .inl ⟨h, rfl⟩⟩
  · by_cases h2 : n ≤ (q : Int)
    · exact ⟨n.toNat, .inr (.inl ⟨by omega, by omega, by omega⟩)⟩
    · exact ⟨q, .inr (.inr ⟨by omega, rfl⟩)⟩
theorem Cnt.le {n : Int} {q m : Nat} (h : Cnt n q m) : m ≤ q := by unfold Cnt at h; omega

section
variable {T : TypeId} {X : List Value} (w : World) (g p M f : Nat) (qs : List Int)

theorem look_any (n : Int) (m : Nat) (h : QAt T X w g p M f qs) (hm : Cnt n qs.length m) :
    Calls Try.prog 117 #[.pointer (some ⟨g, 0, none⟩), .int .i64 n] w (Looked qs m w) := look_core w g p M f qs n m h hm

/-- How many of n bytes are put where there is room for R. -/
theorem put_any (A : Option Addr) (n c : Nat) (zs : List Int) (m : Nat) (h : QAt T X w g p M f qs) (hr : RowOff w (GP g p) A n zs) (hn : n ≤ 100000) (hc : n ≤ c) (hm : m = min n (M - qs.length)) :
    Calls Try.prog 72 #[.pointer (some ⟨g, 0, none⟩), .slice A n c] w (QPut w g p M f qs T X m zs) := by
  have hl := h.len
  rcases Nat.eq_zero_or_pos m with h0 | h0
  · subst h0
    exact put_none w g p M f qs A n c zs (M - qs.length) h hn (by omega) (by omega)
  · obtain ⟨b, off, rfl, _⟩ := hr.2 (by omega)
    exact put_some w g p M f qs b off n c zs m (M - qs.length) h hr hn hc (by omega) (by omega) h0

/-- What Take leaves. -/
def QTake (T : TypeId) (X : List Value) (m : Nat) (e : Ending) (w' : World) : Prop := ∃ b, e = .returned (.slice (some ⟨b, 0, none⟩) m m) ∧ w.heap.size ≤ b ∧ Whole .u8 w' b 5 (qs.take m) ∧ QAt T X w' g p M (plc M f m) (qs.drop m) ∧ Off (GP g p) w w'
/-- The same of a queue alone. -/
abbrev Taken (m : Nat) (e : Ending) (w' : World) : Prop := QTake w g p M f qs 118 [] m e w'

theorem taken_end (h : QAt T X w g p M f qs) (m : Nat) (hm : m ≤ qs.length) (b d : Nat) (w1 : World) (hb : w.heap.size ≤ b) (hW : Whole .u8 w1 b 5 (qs.take m)) (hB : Below w.heap.size w w1) :
    QTake w g p M f qs T X m (.returned (.slice (some ⟨b, 0, none⟩) m m)) (((w1.drewN d).setCell ⟨g, 1, none⟩ (.int .i64 (plc M f m : Int))).setCell ⟨g, 2, none⟩ (.int .i64 ((qs.length : Int) - (m : Int)))) := by
  have hg := h.lt.1
  have h1 : QAt T X (w1.drewN d) g p M f qs := (h.below hB).drewN d
  obtain ⟨pl, HP, HH⟩ := h1.holds
  have ho : Off (GP g p) w (w1.drewN d) := (Off.of_below hB).drewN d
  refine ⟨b, rfl, hb, ?_, ⟨h.ne, h.most, ?_, pl, ?_, holds_take HH m hm⟩, (ho.setCell (p := ⟨g, 1, none⟩) (.inl (.inl rfl)) _).setCell (p := ⟨g, 2, none⟩) (.inl (.inl rfl)) _⟩
  · exact (Below.heap_setCell _ _ _ _ (show b ≠ g by omega)).trans ((Below.heap_setCell _ _ _ _ (show b ≠ g by omega)).trans hW)
  · have hs := (h1.head.set 1 (.int .i64 (plc M f m : Int))).set 2 (.int .i64 ((qs.length : Int) - (m : Int)))
    rw [List.length_drop, show ((qs.length - m : Nat) : Int) = (qs.length : Int) - (m : Int) by omega]
    exact hs
  · exact (Below.heap_setCell _ _ _ _ (Ne.symm h.ne)).trans ((Below.heap_setCell _ _ _ _ (Ne.symm h.ne)).trans HP)

set_option maxRecDepth 100000 in
set_option maxHeartbeats 1000000 in
theorem take_any (n : Int) (m : Nat) (h : QAt T X w g p M f qs) (hm : Cnt n qs.length m) :
    Calls Try.prog 75 #[.pointer (some ⟨g, 0, none⟩), .int .i64 n] w (QTake w g p M f qs T X m) := by
  have hmq := hm.le
  have hlen := h.len
  have hmost := h.most
  have CL := Lib.hid (look_any w g p M f qs n m h hm)
  have CP := Lib.hid (fun w1 (hb : Below w.heap.size w w1) => place_any w1 g p M f qs m (h.below hb) (by omega))
  have HE := Lib.hid (taken_end w g p M f qs h m hmq)
  have h2 := h.head.cell 2
  simp only [List.getElem?_cons_succ, List.getElem?_cons_zero] at h2
  have hgl := h.lt.1
  have HH := Lib.hid h.head
  obtain ⟨q, hq⟩ : ∃ q, qs.length = q := ⟨_, rfl⟩
  rw [hq] at HE h2 HH hmq hlen
  obtain ⟨P, hP⟩ : ∃ P, plc M f m = P := ⟨_, rfl⟩
  rw [hP] at HE CP
  clear h hm hq hP
  go_enter Try.func75, Try.ntmps75
  go_wp2_with (first
    | (go_at_call 117
       (with_reducible refine CL.out.mono ?_)
       rintro e w1 ⟨b, rfl, hb, hW, hB⟩
       have HE1 := Lib.hid (fun d => HE.out b d w1 hb hW hB)
       have CP1 := Lib.hid (CP.out w1 hB)
       have HW1 : WholeV w1 g T (.slice (some ⟨p, 0, none⟩) M M :: .int .i64 (f : Int) :: .int .i64 (q : Int) :: X) := HH.out.below hB hgl
       have c1 := HW1.cell 1
       have c2 := HW1.cell 2
       simp only [List.getElem?_cons_succ, List.getElem?_cons_zero] at c1 c2
       have f1 := HW1.frozen 1
       have f2 := HW1.frozen 2
       clear hb hW hB HW1)
    | (go_at_call 115; (with_reducible refine CP1.out.mono ?_); rintro e w2 ⟨rfl, d2, rfl⟩))
  go_ret
  exact HE1.out d2

end

theorem below_gp {B0 : Nat} {w0 w w' : World} {g p : Nat} (hb : Below B0 w0 w) (hB : B0 ≤ w.heap.size) (ho : Off (GP g p) w w') (hg : B0 ≤ g) (hp : B0 ≤ p) : Below B0 w0 w' :=
  hb.trans (ho.below hB (fun k hk h => by rcases h with h | h <;> omega))

/-- Bytes that were built. -/
theorem built_off (W : World) (S : Nat → Prop) (zs : List Int) (hS : ¬ S W.heap.size) : RowOff (W.alloc (.cells (zs.map (Value.int .u8)).toArray 5)) S (some ⟨W.heap.size, 0, none⟩) zs.length zs := by
  have h : Whole .u8 (W.alloc (.cells (zs.map (Value.int .u8)).toArray 5)) W.heap.size 5 (zs ++ []) := by rw [List.append_nil]; exact heap_alloc_new W _
  exact RowOff.of_whole h rfl hS

end Go.Proofs.Ythmendcdfhlkkaa
