/- What the laws of chapter 9 share: rows that were made behind a queue. -/
import Derived.Test.YthmendcdfhlkkaaAwake9
namespace Go.Proofs.Ythmendcdfhlkkaa
open Go.ChangeShapes Go.WideShapes Go.ChangeAt Go.RowKit
set_option linter.unusedVariables false
set_option linter.unusedSimpArgs false

/-- A row that was made behind a queue. -/
theorem own_gp {w w' : World} {g p n c : Nat} {A : Option Addr} {zs : List Int} (hlt : g < w.heap.size ∧ p < w.heap.size) (h : w'.ownsRow w.heap.size 5 1 (.slice A n c) n (zs.map (Value.int .u8))) : RowOff w' (GP g p) A n zs := by
  have hl : zs.length = n := by have := h.1; rw [List.length_map] at this; omega
  refine ⟨hl, fun h0 => ?_⟩
  obtain ⟨b, cap, he, hb, hr⟩ := row_of_own h h0
  injection he with he
  subst he
  have hr2 := RowV.ints (k := .u8) hr
  obtain ⟨b', off, e, hlt2, hc⟩ := hr2.2 h0
  injection e with e
  injection e with e1 e2
  subst e1 e2
  exact ⟨b, 0, rfl, hlt2, by unfold GP; omega, hc⟩
theorem own_capI {w : World} {base n c : Nat} {A : Option Addr} {xs : List Value} (h : w.ownsRow base 5 1 (.slice A n c) n xs) : n ≤ c := by
  rcases h.2 with ⟨e, h0⟩ | ⟨g, cap, cur, e, _, _, hnc, _⟩
  · omega
  · injection e with _ _ e
    omega

/-- A row, from its place I on, n bytes: as a slice of it is. -/
theorem row_part {w W : World} {g p n I m : Nat} {A : Option Addr} {bs : List Int} (h : Row .u8 w w.heap.size A n bs) (hb : Below w.heap.size w W) (hg : w.heap.size ≤ g) (hp : w.heap.size ≤ p) (hm : I + m ≤ n) (b off : Nat) (hA : A = some ⟨b, off, none⟩) :
    RowOff W (GP g p) (some ⟨b, off + I, none⟩) m ((bs.drop I).take m) := by
  have hl := h.1
  refine ⟨by rw [List.length_take, List.length_drop]; omega, fun h0 => ?_⟩
  obtain ⟨b', off', e, hlt, hc⟩ := h.2 (by omega)
  rw [hA] at e
  injection e with e
  injection e with e1 e2
  subst e1 e2
  refine ⟨b, off + I, rfl, Nat.lt_of_lt_of_le hlt hb.size, by unfold GP; omega, fun j hj => ?_⟩
  rw [hb.cell (p := ⟨b, off + I + j, none⟩) hlt, Nat.add_assoc, hc (I + j) (by omega)]
  simp [List.getD_eq_getElem?_getD, List.getElem?_take, hj, List.getElem?_drop]

theorem rowoff_nil (w : World) (S : Nat → Prop) (A : Option Addr) : RowOff w S A 0 [] := ⟨rfl, fun h => absurd h (by omega)⟩

theorem digit_by (k d n : Int) (z : Nat) (w : World) (hz : (k.tdiv d) % n = (z : Int)) (h0 : -9223372036854775808 ≤ k) (h1 : k ≤ 9223372036854775807) (hd : 1 < d) (hd1 : d ≤ 4611686018427387903) (hn : 0 < n) (hn1 : n ≤ 4611686018427387903) :
    Calls Try.prog 28 #[.int .i64 k, .int .i64 d, .int .i64 n] w fun e w' => e = .returned (.int .i64 (z : Int)) ∧ w = w' := by
  have hb : -9223372036854775808 ≤ k.tdiv d ∧ k.tdiv d ≤ 9223372036854775807 := by
    rcases Int.le_total 0 k with h | h
    · rw [Int.tdiv_eq_ediv_of_nonneg h]
      have := Int.ediv_le_self d h
      have := Int.ediv_nonneg h (show 0 ≤ d by omega)
      omega
    · have e : k.tdiv d = - ((-k) / d) := by
        have := Int.neg_tdiv (-k) d
        rw [Int.neg_neg] at this
        rw [this, Int.tdiv_eq_ediv_of_nonneg (show 0 ≤ -k by omega)]
      have := Int.ediv_le_self d (show 0 ≤ -k by omega)
      have := Int.ediv_nonneg (show 0 ≤ -k by omega) (show 0 ≤ d by omega)
      omega
  obtain ⟨q, hq⟩ : ∃ q, k.tdiv d = q := ⟨_, rfl⟩
  rw [hq] at hb hz
  have b0 := hb.1
  have b1 := hb.2
  have hd0 : d ≠ 0 := by omega
  have hd2 : d ≠ -1 := by omega
  have C := Lib.hid (fun W => within_any q n W b0 b1 hn hn1)
  rw [hz] at C
  clear hb hz
  go_enter Try.func28, Try.ntmps28
  go_wp2_with (go_at_call 11; refine (C.out _).mono ?_; rintro e w' ⟨rfl, rfl⟩)
  go_ret
  exact ⟨rfl, rfl⟩

/-- What stands at a round's head of RingOrder. -/
def OrdInv (w w2 : World) (g p M : Nat) (bs : List Int) (wr : World) (A : Option Addr) (O c I : Nat) : Prop :=
  ∃ f qs ol, RingAt wr g p M f qs ∧ wr.ownsRow w2.heap.size 5 1 (.slice A O c) O (ol.map (Value.int .u8)) ∧ ol ++ qs = bs.take I ∧ Below w.heap.size w wr ∧ w2.heap.size ≤ wr.heap.size

theorem OrdInv.put {w w2 wr w5 : World} {g p M I t m : Nat} {bs : List Int} {A : Option Addr} {O c f : Nat} {qs ol : List Int} {e : Ending} (hlt : g < w2.heap.size ∧ p < w2.heap.size) (hgp : w.heap.size ≤ g ∧ w.heap.size ≤ p)
    (hown : wr.ownsRow w2.heap.size 5 1 (.slice A O c) O (ol.map (Value.int .u8))) (hcat : ol ++ qs = bs.take I) (hb : Below w.heap.size w wr) (hsz : w2.heap.size ≤ wr.heap.size) (hm : m ≤ t)
    (hp : Putten wr g p M f qs m ((bs.drop I).take t) e w5) : OrdInv w w2 g p M bs w5 A O c (I + m) := by
  obtain ⟨_, hr, ho⟩ := hp
  refine ⟨f, _, ol, hr, ho.own hown (fun k hk _ hs => by rcases hs with hs | hs <;> omega), ?_, below_gp hb hb.size ho hgp.1 hgp.2, Nat.le_trans hsz ho.size⟩
  rw [← List.append_assoc, hcat, List.take_take, Nat.min_eq_left hm, List.take_add]

theorem OrdInv.taken {w w2 w6 w7 : World} {g p M I mt : Nat} {bs : List Int} {A7 : Option Addr} {O c7 f : Nat} {qs ol : List Int} {v : Value} (hlt : g < w2.heap.size ∧ p < w2.heap.size) (hw2 : w.heap.size ≤ w2.heap.size)
    (hr : RingAt w6 g p M f (qs.drop mt)) (hb : Below w.heap.size w w6) (hsz : w2.heap.size ≤ w6.heap.size) (hcat : ol ++ qs = bs.take I)
    (hown : w7.ownsRow w2.heap.size 5 1 (.slice A7 (O + mt) c7) (O + mt) (ol.map (Value.int .u8) ++ (qs.take mt).map (Value.int .u8))) (hg : w6.grownBy w7 v.ownBlock) (hge : ∀ k, v.ownBlock = some k → w2.heap.size ≤ k) :
    OrdInv w w2 g p M bs w7 A7 (O + mt) c7 I := by
  have ho : Off (fun k => w2.heap.size ≤ k) w6 w7 := (Off.refl _ w6).grown hg (fun k hk => .inl (hge k hk))
  refine ⟨f, qs.drop mt, ol ++ qs.take mt, hr.off ho (by omega) (by omega), ?_, ?_, hb.grown hg hb.size (fun k hk => by have := hge k hk; omega), Nat.le_trans hsz ho.size⟩
  · rw [List.map_append]; exact hown
  · rw [List.append_assoc, List.take_append_drop, hcat]

theorem ord_end {w w2 w6 w7 : World} {g p M I : Nat} {bs : List Int} {A7 : Option Addr} {O c7 f : Nat} {qs ol : List Int} {v : Value} (hlt : g < w2.heap.size ∧ p < w2.heap.size) (hw2 : w.heap.size ≤ w2.heap.size)
    (hr : RingAt w6 g p M f (qs.drop qs.length)) (hb : Below w.heap.size w w6) (hcat : ol ++ qs = bs.take I)
    (hown : w7.ownsRow w2.heap.size 5 1 (.slice A7 (O + qs.length) c7) (O + qs.length) (ol.map (Value.int .u8) ++ (qs.take qs.length).map (Value.int .u8))) (hg : w6.grownBy w7 v.ownBlock) (hge : ∀ k, v.ownBlock = some k → w2.heap.size ≤ k) :
    RingAt w7 g p M f [] ∧ Row .u8 w7 w7.heap.size A7 (O + qs.length) (bs.take I) ∧ Below w.heap.size w w7 := by
  have ho : Off (fun k => w2.heap.size ≤ k) w6 w7 := (Off.refl _ w6).grown hg (fun k hk => .inl (hge k hk))
  refine ⟨?_, ?_, hb.grown hg hb.size (fun k hk => by have := hge k hk; omega)⟩
  · have := hr.off ho (by omega) (by omega)
    rwa [List.drop_length] at this
  · have h := own_row hown
    rw [List.take_length, ← List.map_append, hcat] at h
    exact h.ints

end Go.Proofs.Ythmendcdfhlkkaa
