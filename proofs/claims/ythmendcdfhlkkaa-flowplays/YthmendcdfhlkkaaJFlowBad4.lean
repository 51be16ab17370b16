/- Joined: FCut Flow1 Flow2 Flow3. -/
import Derived.Test.YthmendcdfhlkkaaJFlowBad1
import Derived.Test.YthmendcdfhlkkaaJFlowBad2
import Derived.Test.YthmendcdfhlkkaaJFlowBad3
namespace Go.Proofs.Ythmendcdfhlkkaa
open Go.ChangeShapes Go.WideShapes Go.ChangeAt Go.RowKit
set_option linter.unusedVariables false
set_option linter.unusedSimpArgs false

/-- The code that Cut answers. -/
def cE (zs : List Int) : Int := if hE zs zs.length = 0 then (if (zs.length : Int) < 6 + wordAt zs 4 then 3 else 0) else hE zs zs.length
/-- How long the frame's pdu is, how many bytes the frame has, its numbers, its pdu. -/
def cM (zs : List Int) : Nat := if cE zs = 0 then (wordAt zs 4 - 1).toNat else 0
def cN (zs : List Int) : Nat := if cE zs = 0 then 7 + cM zs else 0
def cT (zs : List Int) : Int := if cE zs = 0 then wordAt zs 0 else 0
def cU (zs : List Int) : Int := if cE zs = 0 then zs.getD 6 0 else 0
def cP (zs : List Int) : List Int := (zs.drop 7).take (cM zs)

theorem hE_some (zs : List Int) (n : Nat) : hE zs n = 0 ∨ hE zs n = 2 ∨ hE zs n = 3 := by
  unfold hE
  split
  · exact .inr (.inr rfl)
  · split
    · split
      · exact .inr (.inr rfl)
      · exact .inl rfl
    · exact .inr (.inl rfl)

theorem ce_cases (zs : List Int) : (hE zs zs.length ≠ 0 ∧ cE zs = hE zs zs.length) ∨ (hE zs zs.length = 0 ∧ (zs.length : Int) < 6 + wordAt zs 4 ∧ cE zs = 3) ∨
    (hE zs zs.length = 0 ∧ cE zs = 0 ∧ wordAt zs 4 = (cM zs : Int) + 1 ∧ 7 + cM zs ≤ zs.length ∧ 1 ≤ cM zs ∧ cM zs ≤ 253 ∧ cN zs = 7 + cM zs) := by
  by_cases h : hE zs zs.length = 0
  · obtain ⟨_, _, g1, g2⟩ := hE_good h
    by_cases h2 : (zs.length : Int) < 6 + wordAt zs 4
    · exact .inr (.inl ⟨h, h2, by unfold cE; rw [if_pos h, if_pos h2]⟩)
    · have hc : cE zs = 0 := by unfold cE; rw [if_pos h, if_neg h2]
      have hm : cM zs = (wordAt zs 4 - 1).toNat := by unfold cM; rw [if_pos hc]
      have hn : cN zs = 7 + cM zs := by unfold cN; rw [if_pos hc]
      exact .inr (.inr ⟨h, hc, by omega, by omega, by omega, by omega, hn⟩)
  · exact .inl ⟨h, by unfold cE; rw [if_neg h]⟩

theorem ce_some (zs : List Int) : cE zs = 0 ∨ cE zs = 2 ∨ cE zs = 3 := by
  rcases ce_cases zs with ⟨_, h⟩ | ⟨_, _, h⟩ | ⟨_, h, _⟩
  · rw [h]; exact hE_some _ _
  · exact .inr (.inr h)
  · exact .inl h
theorem c_err {zs : List Int} (h : cE zs ≠ 0) : cM zs = 0 ∧ cN zs = 0 ∧ cT zs = 0 ∧ cU zs = 0 ∧ cP zs = [] := by
  have hm : cM zs = 0 := by unfold cM; rw [if_neg h]
  refine ⟨hm, by unfold cN; rw [if_neg h], by unfold cT; rw [if_neg h], by unfold cU; rw [if_neg h], by unfold cP; rw [hm]; rfl⟩
theorem c_ok {zs : List Int} (h : cE zs = 0) : cT zs = wordAt zs 0 ∧ cU zs = zs.getD 6 0 ∧ cN zs = 7 + cM zs ∧ wordAt zs 4 = (cM zs : Int) + 1 ∧ 7 + cM zs ≤ zs.length ∧ 1 ≤ cM zs ∧ cM zs ≤ 253 ∧ hE zs zs.length = 0 := by
  rcases ce_cases zs with ⟨h1, h2⟩ | ⟨_, _, h2⟩ | ⟨h1, _, h2, h3, h4, h5, h6⟩
  · exact absurd (h2.symm.trans h) h1
  · rw [h] at h2; cases h2
  · exact ⟨by unfold cT; rw [if_pos h], by unfold cU; rw [if_pos h], h6, h2, h3, h4, h5, h1⟩
theorem cN_le (zs : List Int) : cN zs ≤ zs.length := by
  by_cases h : cE zs = 0
  · have := c_ok h; omega
  · rw [(c_err h).2.1]; exact Nat.zero_le _
theorem cP_length (zs : List Int) : (cP zs).length = cM zs := by
  by_cases h : cE zs = 0
  · have := c_ok h; unfold cP; rw [List.length_take, List.length_drop]; omega
  · rw [(c_err h).2.2.2.2, (c_err h).1]; rfl

/-- What Cut leaves, with the code E. -/
def GotE (E : Int) (zs : List Int) (w : World) (e : Ending) (w' : World) : Prop := ∃ B d, e = .returned (.tuple #[.agg #[.int .i64 (cT zs), .int .i64 (cU zs), .slice B (cM zs) d], .int .i64 (cN zs : Int), .int .i64 E]) ∧
  w'.ownsRow w.heap.size 5 1 (.slice B (cM zs) d) (cM zs) ((cP zs).map (Value.int .u8)) ∧ Below w.heap.size w w'
/-- What Cut leaves. -/
def CutGot (zs : List Int) (w : World) (e : Ending) (w' : World) : Prop := GotE (cE zs) zs w e w'

theorem cutgot_err {zs : List Int} {w w' : World} {e : Ending} {E : Int} (hE : cE zs = E) (h0 : E ≠ 0) (h : e = .returned (.tuple #[.agg #[.int .i64 0, .int .i64 0, .slice none 0 0], .int .i64 0, .int .i64 E]) ∧ Below w.heap.size w w') : CutGot zs w e w' := by
  obtain ⟨rfl, hb⟩ := h
  subst hE
  obtain ⟨h1, h2, h3, h4, h5⟩ := c_err h0
  unfold CutGot GotE
  rw [h1, h2, h3, h4, h5]
  exact ⟨none, 0, rfl, own_none _ _ _, hb⟩

section
variable (A : Option Addr) (n c : Nat) (zs : List Int) (w : World)

theorem acut_any (hr : Row .u8 w w.heap.size A n zs) (hx : Bytes8 zs) (hn : n ≤ 100000) (hc : n ≤ c) : Calls Try.prog 128 #[.slice A n c] w (CutGot zs w) := by
  obtain rfl : zs.length = n := hr.1
  rcases ce_cases zs with ⟨h1, h2⟩ | ⟨h1, h2, h3⟩ | ⟨h1, h2, h3, h4, h5, h6, h7⟩
  · exact (acut_err A _ c zs w _ hr hx hn rfl h1).mono fun e w' h => cutgot_err h2 h1 h
  · exact (acut_more A _ c zs w hr hx hn h1 h2).mono fun e w' h => cutgot_err h3 (by decide) h
  · refine (acut_ok A _ c zs w (cM zs) hr hx hn hc h1 h3 h4).mono ?_
    rintro e w' ⟨g, rfl, hg, hw, hb⟩
    obtain ⟨t1, t2, _⟩ := c_ok h2
    unfold CutGot GotE
    rw [t1, t2, h7, h2]
    exact ⟨_, _, rfl, own_whole hw (Nat.le_of_lt hg) (cP_length zs) (by omega), hb⟩

end

/-- The first 260 bytes tell it all. -/
theorem he_take (zs : List Int) : hE (zs.take 260) (zs.take 260).length = hE zs zs.length := by
  have hl : (zs.take 260).length = min 260 zs.length := List.length_take
  have hg : hGood (zs.take 260) ↔ hGood zs := by unfold hGood; rw [wa_take zs 260 2 (by omega), wa_take zs 260 4 (by omega)]
  unfold hE
  rw [hl]
  by_cases h6 : zs.length < 6
  · rw [if_pos (by omega), if_pos h6]
  · rw [if_neg (by omega), if_neg h6]
    by_cases hh : hGood zs
    · rw [if_pos (hg.2 hh), if_pos hh]
      by_cases h7 : zs.length = 6
      · rw [if_pos (by omega), if_pos h7]
      · rw [if_neg (by omega), if_neg h7]
    · rw [if_neg (fun e => hh (hg.1 e)), if_neg hh]
theorem ce_take (zs : List Int) : cE (zs.take 260) = cE zs := by
  have hl : (zs.take 260).length = min 260 zs.length := List.length_take
  unfold cE
  rw [he_take, wa_take zs 260 4 (by omega)]
  by_cases h : hE zs zs.length = 0
  · obtain ⟨_, _, g1, g2⟩ := hE_good h
    rw [if_pos h, if_pos h, hl]
    by_cases h2 : (zs.length : Int) < 6 + wordAt zs 4
    · rw [if_pos h2, if_pos (by omega)]
    · rw [if_neg h2, if_neg (by omega)]
  · rw [if_neg h, if_neg h]
theorem c_take (zs : List Int) : cM (zs.take 260) = cM zs ∧ cN (zs.take 260) = cN zs ∧ cT (zs.take 260) = cT zs ∧ cU (zs.take 260) = cU zs ∧ cP (zs.take 260) = cP zs := by
  have hm : cM (zs.take 260) = cM zs := by unfold cM; rw [ce_take, wa_take zs 260 4 (by omega)]
  refine ⟨hm, by unfold cN; rw [ce_take, hm], by unfold cT; rw [ce_take, wa_take zs 260 0 (by omega)], ?_, ?_⟩
  · unfold cU
    rw [ce_take]
    congr 1
    simp [List.getD_eq_getElem?_getD, List.getElem?_take]
  · unfold cP
    rw [hm]
    by_cases h : cE zs = 0
    · have := c_ok h
      rw [List.drop_take, List.take_take]
      congr 1
      omega
    · rw [(c_err h).1]; rfl
theorem cutgot_take {zs : List Int} {w w' : World} {e : Ending} (h : CutGot (zs.take 260) w e w') : CutGot zs w e w' := by
  unfold CutGot GotE at h
  unfold CutGot GotE
  obtain ⟨h1, h2, h3, h4, h5⟩ := c_take zs
  rw [ce_take, h1, h2, h3, h4, h5] at h
  exact h

/-- Frames ahead of other bytes. -/
theorem c_frame (t u : Int) (zs ys : List Int) (n : Nat) (hz : zs.length = n) (h : hFits t (1 + n) u) :
    cE (headOf t (1 + n) u ++ zs ++ ys) = 0 ∧ cM (headOf t (1 + n) u ++ zs ++ ys) = n ∧ cN (headOf t (1 + n) u ++ zs ++ ys) = 7 + n ∧ cT (headOf t (1 + n) u ++ zs ++ ys) = t ∧ cU (headOf t (1 + n) u ++ zs ++ ys) = u ∧ cP (headOf t (1 + n) u ++ zs ++ ys) = zs := by
  obtain ⟨f0, f2, f4, f6⟩ := frame_words t (1 + n) u (zs ++ ys) h
  rw [← List.append_assoc] at f0 f2 f4 f6
  have hl : (headOf t (1 + n) u ++ zs ++ ys).length = 7 + n + ys.length := by rw [List.length_append, List.length_append, hz]; rfl
  have he := hE_of (headOf t (1 + n) u ++ zs ++ ys) (headOf t (1 + n) u ++ zs ++ ys).length (1 + n) (fun _ => f2) (fun _ => f4) h.2.1.1 h.2.1.2
  rw [if_neg (by omega)] at he
  have hc : cE (headOf t (1 + n) u ++ zs ++ ys) = 0 := by unfold cE; rw [if_pos he, f4, if_neg (by omega)]
  obtain ⟨k1, k2, k3, k4, _⟩ := c_ok hc
  have hm : cM (headOf t (1 + n) u ++ zs ++ ys) = n := by omega
  refine ⟨hc, hm, by omega, by rw [k1, f0], by rw [k2, f6], ?_⟩
  unfold cP
  rw [hm]
  have e : (headOf t (1 + n) u ++ zs ++ ys).drop 7 = zs ++ ys := by rw [List.append_assoc]; rfl
  rw [e, ← hz, List.take_left]
/-- A front of a frame: more are needed. -/
theorem c_front (t u : Int) (zs : List Int) (n k : Nat) (hz : zs.length = n) (h : hFits t (1 + n) u) (hk : k < 7 + n) : cE ((headOf t (1 + n) u ++ zs).take k) = 3 := by
  obtain ⟨f0, f2, f4, f6⟩ := frame_words t (1 + n) u zs h
  have hl : ((headOf t (1 + n) u ++ zs).take k).length = k := by
    rw [List.length_take, List.length_append, hz, show (headOf t (1 + (n : Int)) u).length = 7 from rfl]
    omega
  have he := hE_of ((headOf t (1 + n) u ++ zs).take k) k (1 + n) (fun h6 => by rw [wa_take _ _ _ (by omega)]; exact f2) (fun h6 => by rw [wa_take _ _ _ (by omega)]; exact f4) h.2.1.1 h.2.1.2
  unfold cE
  rw [hl, he]
  by_cases h7 : k < 7
  · rw [if_pos h7]; rfl
  · rw [if_neg h7, if_pos rfl, if_pos (by rw [wa_take _ _ _ (by omega), f4]; omega)]

/-- What a walk is told of a box of three cells when it stores into it. -/
theorem box3_fz {w : World} {g : Nat} {T : TypeId} {a0 a1 a2 : Value} (h : WholeV w g T [a0, a1, a2]) :
    w.cell? ⟨g, 0, none⟩ = some a0 ∧ w.cell? ⟨g, 1, none⟩ = some a1 ∧ w.cell? ⟨g, 2, none⟩ = some a2 ∧ w.frozen? ⟨g, 0, none⟩ = false ∧ (∀ v, (w.setCell ⟨g, 0, none⟩ v).frozen? ⟨g, 1, none⟩ = false) ∧ ∀ v v', ((w.setCell ⟨g, 0, none⟩ v).setCell ⟨g, 1, none⟩ v').frozen? ⟨g, 2, none⟩ = false :=
  ⟨h.cell 0, h.cell 1, h.cell 2, h.frozen 0, fun v => (h.set 0 v).frozen 1, fun v v' => ((h.set 0 v).set 1 v').frozen 2⟩
theorem set3b {w w0 : World} {B g : Nat} {T : TypeId} {a0 a1 a2 : Value} (h : WholeV w g T [a0, a1, a2]) (hb : Below B w0 w) (hg : B ≤ g) (b0 b1 b2 : Value) :
    WholeV (((w.setCell ⟨g, 0, none⟩ b0).setCell ⟨g, 1, none⟩ b1).setCell ⟨g, 2, none⟩ b2) g T [b0, b1, b2] ∧ Below B w0 (((w.setCell ⟨g, 0, none⟩ b0).setCell ⟨g, 1, none⟩ b1).setCell ⟨g, 2, none⟩ b2) :=
  ⟨((h.set 0 b0).set 1 b1).set 2 b2, ((hb.setCell (p := ⟨g, 0, none⟩) hg b0).setCell (p := ⟨g, 1, none⟩) hg b1).setCell (p := ⟨g, 2, none⟩) hg b2⟩

/-- Block g is a flow, its places in block p; qs wait; d: is it bad? -/
structure FAt (w : World) (g p M f : Nat) (qs : List Int) (d : Bool) : Prop where
  q : QAt 123 [.bool d] w g p M f qs
  dead : d = true → qs = [] ∧ M = 0
  bytes : Bytes8 qs
theorem FAt.off {S : Nat → Prop} {w w' : World} {g p M f : Nat} {qs : List Int} {d : Bool} (h : FAt w g p M f qs d) (ho : Off S w w') (hg : ¬ S g) (hp : ¬ S p) : FAt w' g p M f qs d := ⟨h.q.off ho hg hp, h.dead, h.bytes⟩
theorem FAt.below {w w' : World} {g p M f : Nat} {qs : List Int} {d : Bool} (h : FAt w g p M f qs d) (hb : Below w.heap.size w w') : FAt w' g p M f qs d := ⟨h.q.below hb, h.dead, h.bytes⟩
theorem FAt.drewN {w : World} {g p M f : Nat} {qs : List Int} {d : Bool} (h : FAt w g p M f qs d) (n : Nat) : FAt (w.drewN n) g p M f qs d := ⟨h.q.drewN n, h.dead, h.bytes⟩

/-- The code that is told. -/
def gE (d : Bool) (zs : List Int) : Int := if d = true then 2 else cE zs
theorem ge_some (d : Bool) (zs : List Int) : gE d zs = 0 ∨ gE d zs = 2 ∨ gE d zs = 3 := by
  unfold gE
  split
  · exact .inr (.inl rfl)
  · exact ce_some zs
/-- What is there after one is asked for. -/
def nQ (d : Bool) (zs : List Int) : List Int := if gE d zs = 2 then [] else zs.drop (cN zs)
def nD (d : Bool) (zs : List Int) : Bool := decide (gE d zs = 2)
def nM (d : Bool) (zs : List Int) (M : Nat) : Nat := if gE d zs = 2 then 0 else M
theorem ce_nil : cE [] = 3 := rfl

/-- A new queue's value was returned. -/
def NewQ (M : Nat) (w : World) (e : Ending) (w' : World) : Prop := ∃ p pl, e = .returned (.agg #[.slice (some ⟨p, 0, none⟩) M M, .int .i64 0, .int .i64 0]) ∧ w.heap.size < p ∧ Whole .u8 w' p 5 pl ∧ pl.length = M ∧ Below w.heap.size w w'

set_option maxRecDepth 100000 in
set_option maxHeartbeats 1000000 in
theorem newq_any (most : Int) (M : Nat) (w : World) (h0 : -9223372036854775808 ≤ most) (h1 : most ≤ 9223372036854775807) (hM : (M : Int) = if 65536 < (if most < 0 then 0 else most) then 65536 else (if most < 0 then 0 else most)) :
    Calls Try.prog 69 #[.int .i64 most] w (NewQ M w) := by
  have C1 := Lib.hid (fun W => new_any most M W h0 h1 hM)
  clear h0 h1 hM
  go_enter Try.func69, Try.ntmps69
  go_wp2_with (first
    | (go_at_call 113
       (with_reducible refine (C1.out _).mono ?_)
       rintro e w2 ⟨g, p, rfl, hr, hg, hp, hb⟩
       obtain ⟨pl, hpl, hl, _⟩ := hr.holds
       have HP2 := Lib.hid hpl
       have HL2 := Lib.hid hl
       have HGP : Hid (w.heap.size < g ∧ w.heap.size < p) := by simp at hg hp; show _ ∧ _; omega
       have c0 : w2.cell? ⟨g, 0, none⟩ = some (.slice (some ⟨p, 0, none⟩) M M) := hr.head.cell 0
       have c1 : w2.cell? ⟨g, 1, none⟩ = some (.int .i64 0) := hr.head.cell 1
       have c2 : w2.cell? ⟨g, 2, none⟩ = some (.int .i64 0) := hr.head.cell 2
       replace hb := below_alloc1 hb
       have HX2 := Lib.hid (box3 _ _ _ _ _ _ hb)
       have HB2 := Lib.hid (below_alloc0 hb)
       have hlt2 : w.heap.size < w2.heap.size := HX2.out.lt
       obtain ⟨hc0, hc1, hc2, hf0, hf1, hf2⟩ := box3_fz HX2.out
       clear hb hr hg hp hpl hl))
  obtain ⟨h9, hb9⟩ := set3b HX2.out HB2.out (Nat.le_refl _) (.slice (some ⟨p, 0, none⟩) M M) (.int .i64 0) (.int .i64 0)
  have hz9 := h9.lt
  have q0 := h9.cell 0
  have q1 := h9.cell 1
  have q2 := h9.cell 2
  refine bodyPost_ret (v := .agg #[.slice (some ⟨p, 0, none⟩) M M, .int .i64 0, .int .i64 0]) (by simp [results, Try.results69, go_sem, hz9, q0, q1, q2]) rfl ?_
  refine ⟨p, pl, rfl, HGP.out.2, ?_, HL2.out, hb9⟩
  have hne := Nat.ne_of_gt HGP.out.2
  exact (Below.heap_setCell _ _ _ _ hne).trans ((Below.heap_setCell _ _ _ _ hne).trans ((Below.heap_setCell _ _ _ _ hne).trans HP2.out))

/-- What stands in a row that was made, after stores into a box ahead of it. -/
theorem gotE_end {B : Option Addr} {d : Nat} {E : Int} {zs : List Int} {w w2 w3 w9 : World} (hX : w.heap.size < w2.heap.size)
    (ho : w3.ownsRow w2.heap.size 5 1 (.slice B (cM zs) d) (cM zs) ((cP zs).map (Value.int .u8))) (h9 : Off (fun k => k = w.heap.size) w3 w9) (hb : Below w.heap.size w w9) :
    GotE E zs w (.returned (.tuple #[.agg #[.int .i64 (cT zs), .int .i64 (cU zs), .slice B (cM zs) d], .int .i64 (cN zs : Int), .int .i64 E])) w9 :=
  ⟨B, d, rfl, own_mono (h9.own ho (fun k hk _ e => by omega)) (by omega), hb⟩
theorem off3 (w : World) (g : Nat) (b0 b1 b2 : Value) : Off (fun k => k = g) w (((w.setCell ⟨g, 0, none⟩ b0).setCell ⟨g, 1, none⟩ b1).setCell ⟨g, 2, none⟩ b2) :=
  (((Off.refl (fun k => k = g) w).setCell (p := ⟨g, 0, none⟩) (.inl rfl) b0).setCell (p := ⟨g, 1, none⟩) (.inl rfl) b1).setCell (p := ⟨g, 2, none⟩) (.inl rfl) b2

set_option maxRecDepth 100000 in
set_option maxHeartbeats 1000000 in
theorem fcut_any {T : TypeId} {X : List Value} (w : World) (g p M f : Nat) (qs : List Int) (h : QAt T X w g p M f qs) (hx : Bytes8 qs) :
    Calls Try.prog 116 #[.pointer (some ⟨g, 0, none⟩)] w (CutGot qs w) := by
  obtain ⟨m, hm⟩ := cnt_some 260 qs.length
  have hm2 : m = min 260 qs.length := by unfold Cnt at hm; omega
  have htk : qs.take m = qs.take 260 := by rw [hm2, List.take_eq_take_iff]; omega
  have C1 := Lib.hid (fun W (hb : Below w.heap.size w W) => look_any W g p M f qs 260 m (h.below hb) hm)
  have C2 := Lib.hid (fun W b (hw : Whole .u8 W b 5 (qs.take m)) => (acut_any (some ⟨b, 0, none⟩) m m (qs.take 260) W (by
    have hr := hw.row
    rw [htk] at hr
    rwa [show (qs.take 260).length = m by rw [List.length_take]; omega] at hr) (take_bytes8 hx 260) (by omega) (Nat.le_refl _)).mono fun e w' h => cutgot_take h)
  clear h hm hm2 htk
  go_enter Try.func116, Try.ntmps116
  go_wp2_with (first
    | (go_at_call 117
       refine (C1.out _ ((Below.refl _ _).alloc (Nat.le_refl _) _)).mono ?_
       rintro e w2 ⟨b, rfl, hbb, hW, hb⟩
       replace hb := below_alloc1 hb
       have HB2 := Lib.hid hb
       have C3 := Lib.hid (C2.out w2 b hW)
       clear hb hbb hW)
    | (go_at_call 128
       (with_reducible refine C3.out.mono ?_)
       rintro e w3 ⟨B, d, rfl, ho, hb3⟩
       have HO3 := Lib.hid ho
       have hs2 : w.heap.size < w2.heap.size := (box3 _ _ _ _ _ _ HB2.out).lt
       have HB3 : Hid (Below (w.heap.size + 1) _ w3) := HB2.out.trans (hb3.mono (by omega))
       have HS2 := Lib.hid hs2
       have HX3 := Lib.hid (box3 _ _ _ _ _ _ HB3.out)
       have HB30 := Lib.hid (below_alloc0 HB3.out)
       have hlt3 : w.heap.size < w3.heap.size := HX3.out.lt
       obtain ⟨hc0, hc1, hc2, hf0, hf1, hf2⟩ := box3_fz HX3.out
       clear ho hb3 hs2))
  obtain ⟨h9, hb9⟩ := set3b HX3.out HB30.out (Nat.le_refl _) (.int .i64 (cT qs)) (.int .i64 (cU qs)) (.slice B (cM qs) d)
  have hz9 := h9.lt
  have q0 := h9.cell 0
  have q1 := h9.cell 1
  have q2 := h9.cell 2
  exact bodyPost_ret (v := .tuple #[.agg #[.int .i64 (cT qs), .int .i64 (cU qs), .slice B (cM qs) d], .int .i64 (cN qs : Int), .int .i64 (cE qs)]) (by simp [results, Try.results116, go_sem, hz9, q0, q1, q2]) rfl
    (gotE_end HS2.out HO3.out (off3 _ _ _ _ _) hb9)

section
variable (w : World) (g p M f : Nat) (qs : List Int) (d : Bool)

theorem fheld_any (h : FAt w g p M f qs d) : Calls Try.prog 33 #[.pointer (some ⟨g, 0, none⟩)] w fun e w' => e = .returned (.int .i64 (qs.length : Int)) ∧ w = w' := by
  have C1 := Lib.hid (len_any w g p M f qs h.q)
  clear h
  go_enter Try.func33, Try.ntmps33
  go_wp2_with (go_at_call 79; (with_reducible refine C1.out.mono ?_); rintro e w1 ⟨rfl, rfl⟩)
  go_ret
  exact ⟨rfl, rfl⟩

theorem fbad_any (h : FAt w g p M f qs d) : Calls Try.prog 34 #[.pointer (some ⟨g, 0, none⟩)] w fun e w' => e = .returned (.bool d) ∧ w = w' := by
  have c3 := h.q.head.cell 3
  simp only [List.getElem?_cons_succ, List.getElem?_cons_zero] at c3
  clear h
  go_enter Try.func34, Try.ntmps34
  go_wp2
  go_ret
  exact ⟨rfl, rfl⟩

/-- What Feed leaves. -/
def Fed (m : Nat) (zs : List Int) (e : Ending) (w' : World) : Prop := e = .returned (.int .i64 (m : Int)) ∧ FAt w' g p M f (qs ++ zs.take m) d ∧ Off (GP g p) w w'

set_option maxHeartbeats 1000000 in
theorem feed_any (A : Option Addr) (n c : Nat) (zs : List Int) (m : Nat) (h : FAt w g p M f qs d) (hx : Bytes8 zs) (hr : RowOff w (GP g p) A n zs) (hn : n ≤ 100000) (hc : n ≤ c) (hm : m = min n (M - qs.length)) :
    Calls Try.prog 29 #[.pointer (some ⟨g, 0, none⟩), .slice A n c] w (Fed w g p M f qs d m zs) := by
  have C1 := Lib.hid (put_any w g p M f qs A n c zs m h.q hr hn hc hm)
  have HE : Hid (∀ w', QPut w g p M f qs 123 [.bool d] m zs (.returned (.int .i64 (m : Int))) w' → Fed w g p M f qs d m zs (.returned (.int .i64 (m : Int))) w') := by
    rintro w' ⟨_, hq, ho⟩
    refine ⟨rfl, ⟨hq, fun hd => ?_, fun x hxm => ?_⟩, ho⟩
    · obtain ⟨h1, h2⟩ := h.dead hd
      subst h1 h2
      obtain rfl : m = 0 := by simpa using hm
      exact ⟨by simp, rfl⟩
    · rcases List.mem_append.1 hxm with hxm | hxm
      · exact h.bytes x hxm
      · exact hx x (List.mem_of_mem_take hxm)
  clear h hr hc hm
  go_enter Try.func29, Try.ntmps29
  go_wp2_with (
    (go_at_call 72
     (with_reducible refine C1.out.mono ?_)
     rintro e w1 ⟨rfl, hq, ho⟩
     have H9 := Lib.hid (HE.out w1 ⟨rfl, hq, ho⟩)
     clear hq ho))
  go_ret
  exact H9.out

set_option maxRecDepth 100000 in
set_option maxHeartbeats 1000000 in
theorem first_any (h : FAt w g p M f qs d) : Calls Try.prog 74 #[.pointer (some ⟨g, 0, none⟩)] w (GotE (gE d qs) qs w) := by
  have hq := h.q.below ((Below.refl _ _).alloc (Nat.le_refl _) (.cells #[.int .i64 0, .int .i64 0, .slice none 0 0] 64))
  have c3 := hq.head.cell 3
  simp only [List.getElem?_cons_succ, List.getElem?_cons_zero] at c3
  cases d with
  | true =>
    obtain ⟨h1, _⟩ := h.dead rfl
    subst h1
    have HX : Hid (WholeV (w.alloc (.cells #[.int .i64 0, .int .i64 0, .slice none 0 0] 64)) w.heap.size 64 [.int .i64 0, .int .i64 0, .slice none 0 0]) := heap_alloc_new w _
    have HB : Hid (Below w.heap.size w (w.alloc (.cells #[.int .i64 0, .int .i64 0, .slice none 0 0] 64))) := (Below.refl _ _).alloc (Nat.le_refl _) _
    obtain ⟨hc0, hc1, hc2, hf0, hf1, hf2⟩ := box3_fz HX.out
    have hlt := HX.out.lt
    clear h hq
    go_enter Try.func74, Try.ntmps74
    go_wp2
    exact bodyPost_ret (v := .tuple #[.agg #[.int .i64 0, .int .i64 0, .slice none 0 0], .int .i64 0, .int .i64 2]) (by simp [results, Try.results74, go_sem, hlt, hc0, hc1, hc2]) rfl
      ⟨none, 0, rfl, own_none _ _ _, HB.out⟩
  | false =>
    have C1 := Lib.hid (fcut_any _ g p M f qs hq h.bytes)
    clear h hq
    go_enter Try.func74, Try.ntmps74
    go_wp2_with (
      (go_at_call 116
       (with_reducible refine C1.out.mono ?_)
       rintro e w3 ⟨B, k, rfl, ho, hb3⟩
       have HO3 := Lib.hid ho
       replace hb3 := below_alloc1 hb3
       have HX3 := Lib.hid (box3 _ _ _ _ _ _ hb3)
       have HB30 := Lib.hid (below_alloc0 hb3)
       have hlt3 : w.heap.size < w3.heap.size := HX3.out.lt
       obtain ⟨hc0, hc1, hc2, hf0, hf1, hf2⟩ := box3_fz HX3.out
       clear ho hb3))
    obtain ⟨h9, hb9⟩ := set3b HX3.out HB30.out (Nat.le_refl _) (.int .i64 (cT qs)) (.int .i64 (cU qs)) (.slice B (cM qs) k)
    have hz9 := h9.lt
    have q0 := h9.cell 0
    have q1 := h9.cell 1
    have q2 := h9.cell 2
    exact bodyPost_ret (v := .tuple #[.agg #[.int .i64 (cT qs), .int .i64 (cU qs), .slice B (cM qs) k], .int .i64 (cN qs : Int), .int .i64 (cE qs)]) (by simp [results, Try.results74, go_sem, hz9, q0, q1, q2]) rfl
      (gotE_end (by simp) HO3.out (off3 _ _ _ _ _) hb9)

end

section
variable (w : World) (g p M f : Nat) (qs : List Int) (d : Bool)

set_option maxRecDepth 100000 in
set_option maxHeartbeats 1000000 in
theorem ready_any (h : FAt w g p M f qs d) : Calls Try.prog 35 #[.pointer (some ⟨g, 0, none⟩)] w fun e w' => e = .returned (.bool (gE d qs != 3)) ∧ Below w.heap.size w w' := by
  have C1 := Lib.hid (first_any w g p M f qs d h)
  obtain ⟨G, hG⟩ : ∃ G, gE d qs = G := ⟨_, rfl⟩
  rw [hG] at C1 ⊢
  clear h hG
  go_enter Try.func35, Try.ntmps35
  go_wp2_with (
    (go_at_call 74
     (with_reducible refine C1.out.mono ?_)
     rintro e w2 ⟨B, k, rfl, ho, hb⟩
     have HB2 := Lib.hid hb
     clear ho hb))
  go_ret
  exact ⟨rfl, HB2.out.alloc HB2.out.size _⟩

/-- What end leaves. -/
def EndGot (e : Ending) (w' : World) : Prop := e = .returned (.tuple #[]) ∧ ∃ p', FAt w' g p' 0 0 [] true ∧ Off (GP g p) w w' ∧ w.heap.size ≤ p'

set_option maxRecDepth 100000 in
set_option maxHeartbeats 1000000 in
theorem end_any (h : FAt w g p M f qs d) : Calls Try.prog 76 #[.pointer (some ⟨g, 0, none⟩)] w (EndGot w g p) := by
  have C1 := Lib.hid (newq_any 0 0 w (by omega) (by omega) (by decide))
  have HG := Lib.hid h.q.head
  have HLT := Lib.hid h.q.lt.1
  clear h
  go_enter Try.func76, Try.ntmps76
  go_wp2_with (
    (go_at_call 69
     (with_reducible refine C1.out.mono ?_)
     rintro e w2 ⟨p', pl, rfl, hp, hpl, hl, hb⟩
     have hW2 : WholeV w2 g 123 _ := HG.out.below hb HLT.out
     have HW2 := Lib.hid hW2
     have hc0 := hW2.cell 0
     have hc1 := hW2.cell 1
     have hc2 := hW2.cell 2
     have hc3 := hW2.cell 3
     simp only [List.getElem?_cons_succ, List.getElem?_cons_zero] at hc0 hc1 hc2 hc3
     have hf0 := hW2.frozen 0
     have hf1 := fun v => (hW2.set 0 v).frozen 1
     have hf2 := fun v v' => ((hW2.set 0 v).set 1 v').frozen 2
     have hf3 := fun v v' v'' => (((hW2.set 0 v).set 1 v').set 2 v'').frozen 3
     have hlt := hW2.lt
     have HP := Lib.hid hp
     have HPL := Lib.hid hpl
     have HL := Lib.hid hl
     have HB := Lib.hid hb
     clear hW2 hp hpl hl hb))
  refine bodyPost_end (results_none rfl _ _ _) rfl ?_
  obtain rfl : pl = [] := List.eq_nil_of_length_eq_zero HL.out
  have hpg : g < p' := Nat.lt_trans HLT.out HP.out
  have hne : p' ≠ g := by omega
  refine ⟨rfl, p', ⟨⟨by omega, by omega, ?_, [], ?_, by simp, by simp, by omega, fun h => h, fun j hj => by simp at hj⟩, fun _ => ⟨rfl, rfl⟩, fun x hx => by simp at hx⟩, ?_, Nat.le_of_lt HP.out⟩
  · exact (((HW2.out.set 0 _).set 1 _).set 2 _).set 3 _
  · exact (Below.heap_setCell _ _ _ _ hne).trans ((Below.heap_setCell _ _ _ _ hne).trans ((Below.heap_setCell _ _ _ _ hne).trans ((Below.heap_setCell _ _ _ _ hne).trans HPL.out)))
  · exact (((((Off.of_below HB.out).setCell (p := ⟨g, 0, none⟩) (.inl (.inl rfl)) _).setCell (p := ⟨g, 1, none⟩) (.inl (.inl rfl)) _).setCell (p := ⟨g, 2, none⟩) (.inl (.inl rfl)) _).setCell (p := ⟨g, 3, none⟩) (.inl (.inl rfl)) _)

/-- What Next leaves. -/
def NextGot (e : Ending) (w' : World) : Prop := ∃ B k, e = .returned (.tuple #[.agg #[.int .i64 (cT qs), .int .i64 (cU qs), .slice B (cM qs) k], .int .i64 (gE d qs)]) ∧
  w'.ownsRow w.heap.size 5 1 (.slice B (cM qs) k) (cM qs) ((cP qs).map (Value.int .u8)) ∧ (∃ f' p', FAt w' g p' (nM d qs M) f' (nQ d qs) (nD d qs) ∧ (p' = p ∨ w.heap.size ≤ p')) ∧ Off (GP g p) w w'

/-- What stands ahead of the last region of Next. -/
def Mid (B : Option Addr) (k s2 : Nat) (w4 : World) : Prop :=
  WholeV w4 s2 64 [.int .i64 (cT qs), .int .i64 (cU qs), .slice B (cM qs) k] ∧ WholeV w4 w.heap.size 64 [.int .i64 0, .int .i64 0, .slice none 0 0] ∧
  w4.ownsRow (w.heap.size + 1) 5 1 (.slice B (cM qs) k) (cM qs) ((cP qs).map (Value.int .u8)) ∧ (∃ f' p', FAt w4 g p' (nM d qs M) f' (nQ d qs) (nD d qs) ∧ (p' = p ∨ w.heap.size < p')) ∧ Off (GP g p) w w4

theorem mid_end (h : FAt w g p M f qs d) (B : Option Addr) (k s2 : Nat) (w4 : World) (hm : Mid w g p M qs d B k s2 w4) (E : Int) (hE : gE d qs = E) :
    NextGot w g p M qs d (.returned (.tuple #[.agg #[.int .i64 (cT qs), .int .i64 (cU qs), .slice B (cM qs) k], .int .i64 E])) (((w4.setCell ⟨w.heap.size, 0, none⟩ (.int .i64 (cT qs))).setCell ⟨w.heap.size, 1, none⟩ (.int .i64 (cU qs))).setCell ⟨w.heap.size, 2, none⟩ (.slice B (cM qs) k)) := by
  subst hE
  obtain ⟨h1, h2, h3, ⟨f', p', h4, h5⟩, h6⟩ := hm
  have ho := off3 w4 w.heap.size (.int .i64 (cT qs)) (.int .i64 (cU qs)) (.slice B (cM qs) k)
  have hl := h.q.lt
  refine ⟨B, k, rfl, own_mono (ho.own h3 (fun k hk _ e => by omega)) (by omega), ⟨f', p', h4.off ho (fun e => by omega) (fun e => by omega), by omega⟩, ?_⟩
  exact (((h6.setCell (p := ⟨w.heap.size, 0, none⟩) (.inr (Nat.le_refl _)) _).setCell (p := ⟨w.heap.size, 1, none⟩) (.inr (Nat.le_refl _)) _).setCell (p := ⟨w.heap.size, 2, none⟩) (.inr (Nat.le_refl _)) _)

/-- What stands behind first, in a box of its own. -/
def Pre (B : Option Addr) (k s2 : Nat) (w3 : World) : Prop :=
  WholeV w3 s2 64 [.int .i64 (cT qs), .int .i64 (cU qs), .slice B (cM qs) k] ∧ WholeV w3 w.heap.size 64 [.int .i64 0, .int .i64 0, .slice none 0 0] ∧
  w3.ownsRow (w.heap.size + 1) 5 1 (.slice B (cM qs) k) (cM qs) ((cP qs).map (Value.int .u8)) ∧ Below w.heap.size w w3 ∧ w.heap.size < s2
theorem pre_first (B : Option Addr) (k : Nat) (w2 : World) (ho : w2.ownsRow (w.alloc (.cells #[.int .i64 0, .int .i64 0, .slice none 0 0] 64)).heap.size 5 1 (.slice B (cM qs) k) (cM qs) ((cP qs).map (Value.int .u8)))
    (hb : Below (w.alloc (.cells #[.int .i64 0, .int .i64 0, .slice none 0 0] 64)).heap.size (w.alloc (.cells #[.int .i64 0, .int .i64 0, .slice none 0 0] 64)) w2) :
    Pre w qs B k w2.heap.size (w2.alloc (.cells #[.int .i64 (cT qs), .int .i64 (cU qs), .slice B (cM qs) k] 64)) := by
  have hb1 := below_alloc1 hb
  have hb0 := below_alloc0 hb1
  have hX := box3 _ _ _ _ _ _ hb1
  have hl := hX.lt
  rw [show (w.alloc (.cells #[.int .i64 0, .int .i64 0, .slice none 0 0] 64)).heap.size = w.heap.size + 1 by simp] at ho
  exact ⟨heap_alloc_new w2 _, hX.below ((Below.refl _ _).alloc (Nat.le_refl _) _) hl, ho.alloc _, hb0.alloc hb0.size _, hl⟩

theorem pre_more (h : FAt w g p M f qs d) (hE : gE d qs = 3) (B : Option Addr) (k s2 : Nat) (w3 : World) (hp : Pre w qs B k s2 w3) : Mid w g p M qs d B k s2 w3 := by
  obtain ⟨h1, h2, h3, h4, h5⟩ := hp
  have hd : d = false := by
    cases d with
    | true => unfold gE at hE; simp at hE
    | false => rfl
  subst hd
  have hc : cE qs = 3 := by unfold gE at hE; simpa using hE
  have e1 : nM false qs M = M := by unfold nM; rw [if_neg (by rw [hE]; decide)]
  have e2 : nQ false qs = qs := by unfold nQ; rw [if_neg (by rw [hE]; decide), (c_err (by rw [hc]; decide)).2.1]; rfl
  have e3 : nD false qs = false := by unfold nD; rw [hE]; rfl
  exact ⟨h1, h2, h3, ⟨f, p, by rw [e1, e2, e3]; exact h.below h4, .inl rfl⟩, Off.of_below h4⟩
theorem pre_ok (h : FAt w g p M f qs d) (hE : gE d qs = 0) (B : Option Addr) (k s2 : Nat) (w3 w4 : World) (e : Ending) (hp : Pre w qs B k s2 w3) (ht : QTake w3 g p M f qs 123 [.bool d] (cN qs) e w4) : Mid w g p M qs d B k s2 w4 := by
  obtain ⟨h1, h2, h3, h4, h5⟩ := hp
  obtain ⟨b, _, hb, hW, hq, ho⟩ := ht
  have hl := h.q.lt
  have hd : d = false := by
    cases d with
    | true => unfold gE at hE; simp at hE
    | false => rfl
  subst hd
  have e1 : nM false qs M = M := by unfold nM; rw [if_neg (by rw [hE]; decide)]
  have e2 : nQ false qs = qs.drop (cN qs) := by unfold nQ; rw [if_neg (by rw [hE]; decide)]
  have e3 : nD false qs = false := by unfold nD; rw [hE]; rfl
  refine ⟨ho.whole h1 (fun e => by rcases e with e | e <;> omega), ho.whole h2 (fun e => by rcases e with e | e <;> omega), ho.own h3 (fun k hk _ e => by rcases e with e | e <;> omega), ⟨plc M f (cN qs), p, ?_, .inl rfl⟩, (Off.of_below h4).trans ho (fun i hi => .inl hi)⟩
  rw [e1, e2, e3]
  exact ⟨hq, fun e => (by cases e), fun x hx => h.bytes x (List.mem_of_mem_drop hx)⟩
theorem pre_end (h : FAt w g p M f qs d) (hE : gE d qs = 2) (B : Option Addr) (k s2 : Nat) (w3 w4 : World) (e : Ending) (hp : Pre w qs B k s2 w3) (ht : EndGot w3 g p e w4) : Mid w g p M qs d B k s2 w4 := by
  obtain ⟨h1, h2, h3, h4, h5⟩ := hp
  obtain ⟨_, p', hq, ho, hp'⟩ := ht
  have hl := h.q.lt
  have hs := h2.lt
  have e1 : nM d qs M = 0 := by unfold nM; rw [if_pos hE]
  have e2 : nQ d qs = [] := by unfold nQ; rw [if_pos hE]
  have e3 : nD d qs = true := by unfold nD; rw [hE]; rfl
  refine ⟨ho.whole h1 (fun e => by rcases e with e | e <;> omega), ho.whole h2 (fun e => by rcases e with e | e <;> omega), ho.own h3 (fun k hk _ e => by rcases e with e | e <;> omega), ⟨0, p', ?_, .inr (by omega)⟩, (Off.of_below h4).trans ho (fun i hi => .inl hi)⟩
  rw [e1, e2, e3]
  exact hq

set_option maxRecDepth 100000 in
set_option maxHeartbeats 1000000 in
theorem next_more (h : FAt w g p M f qs d) (hE : gE d qs = 3) : Calls Try.prog 31 #[.pointer (some ⟨g, 0, none⟩)] w (NextGot w g p M qs d) := by
  have C1 := Lib.hid (first_any _ g p M f qs d (h.below ((Below.refl _ _).alloc (Nat.le_refl _) (.cells #[.int .i64 0, .int .i64 0, .slice none 0 0] 64))))
  rw [hE] at C1
  have HM := Lib.hid (pre_more w g p M f qs d h hE)
  have HE := Lib.hid (fun B k s2 w4 hm => mid_end w g p M f qs d h B k s2 w4 hm 3 hE)
  clear h hE
  go_enter Try.func31, Try.ntmps31
  go_wp2_with (
    (go_at_call 74
     (with_reducible refine C1.out.mono ?_)
     rintro e w2 ⟨B, k, rfl, ho, hb⟩
     have HP := Lib.hid (pre_first w qs B k w2 ho hb)
     have HM4 := Lib.hid (HM.out B k _ _ HP.out)
     obtain ⟨hd0, hd1, hd2, _⟩ := box3_fz HM4.out.1
     obtain ⟨hc0, hc1, hc2, hf0, hf1, hf2⟩ := box3_fz HM4.out.2.1
     have hlt := HM4.out.2.1.lt
     clear ho hb HM))
  have hb9 := off3 (w2.alloc (.cells #[.int .i64 (cT qs), .int .i64 (cU qs), .slice B (cM qs) k] 64)) w.heap.size (.int .i64 (cT qs)) (.int .i64 (cU qs)) (.slice B (cM qs) k)
  have h9 := ((HM4.out.2.1.set 0 (.int .i64 (cT qs))).set 1 (.int .i64 (cU qs))).set 2 (.slice B (cM qs) k)
  have hz9 := h9.lt
  have q0 := h9.cell 0
  have q1 := h9.cell 1
  have q2 := h9.cell 2
  exact bodyPost_ret (v := .tuple #[.agg #[.int .i64 (cT qs), .int .i64 (cU qs), .slice B (cM qs) k], .int .i64 3]) (by simp [results, Try.results31, go_sem, hz9, q0, q1, q2]) rfl (HE.out B k _ _ HM4.out)

set_option maxRecDepth 100000 in
set_option maxHeartbeats 1000000 in
theorem next_ok (h : FAt w g p M f qs d) (hE : gE d qs = 0) : Calls Try.prog 31 #[.pointer (some ⟨g, 0, none⟩)] w (NextGot w g p M qs d) := by
  have C1 := Lib.hid (first_any _ g p M f qs d (h.below ((Below.refl _ _).alloc (Nat.le_refl _) (.cells #[.int .i64 0, .int .i64 0, .slice none 0 0] 64))))
  rw [hE] at C1
  have HM := Lib.hid (pre_ok w g p M f qs d h hE)
  have CT : Hid (∀ w3, Below w.heap.size w w3 → Calls Try.prog 75 #[.pointer (some ⟨g, 0, none⟩), .int .i64 (cN qs : Int)] w3 (QTake w3 g p M f qs 123 [.bool d] (cN qs))) := fun w3 hb => take_any w3 g p M f qs (cN qs : Int) (cN qs) (h.below hb).q (.inr (.inl ⟨by omega, rfl, cN_le qs⟩))
  have HE := Lib.hid (fun B k s2 w4 hm => mid_end w g p M f qs d h B k s2 w4 hm 0 hE)
  clear h hE
  go_enter Try.func31, Try.ntmps31
  go_wp2_with (first
    | (go_at_call 74
       (with_reducible refine C1.out.mono ?_)
       rintro e w2 ⟨B, k, rfl, ho, hb⟩
       have HP := Lib.hid (pre_first w qs B k w2 ho hb)
       have CT2 := Lib.hid (CT.out _ HP.out.2.2.2.1)
       clear ho hb)
    | (go_at_call 75
       (with_reducible refine CT2.out.mono ?_)
       intro e w4 ht
       have HM4 := Lib.hid (HM.out B k _ _ w4 e HP.out ht)
       obtain ⟨hd0, hd1, hd2, _⟩ := box3_fz HM4.out.1
       obtain ⟨hc0, hc1, hc2, hf0, hf1, hf2⟩ := box3_fz HM4.out.2.1
       have hlt := HM4.out.2.1.lt
       obtain ⟨b, rfl, _⟩ := ht))
  have hb9 := off3 w4 w.heap.size (.int .i64 (cT qs)) (.int .i64 (cU qs)) (.slice B (cM qs) k)
  have h9 := ((HM4.out.2.1.set 0 (.int .i64 (cT qs))).set 1 (.int .i64 (cU qs))).set 2 (.slice B (cM qs) k)
  have hz9 := h9.lt
  have q0 := h9.cell 0
  have q1 := h9.cell 1
  have q2 := h9.cell 2
  exact bodyPost_ret (v := .tuple #[.agg #[.int .i64 (cT qs), .int .i64 (cU qs), .slice B (cM qs) k], .int .i64 0]) (by simp [results, Try.results31, go_sem, hz9, q0, q1, q2]) rfl (HE.out B k _ _ HM4.out)

set_option maxRecDepth 100000 in
set_option maxHeartbeats 1000000 in
theorem next_end (h : FAt w g p M f qs d) (hE : gE d qs = 2) : Calls Try.prog 31 #[.pointer (some ⟨g, 0, none⟩)] w (NextGot w g p M qs d) := by
  have C1 := Lib.hid (first_any _ g p M f qs d (h.below ((Below.refl _ _).alloc (Nat.le_refl _) (.cells #[.int .i64 0, .int .i64 0, .slice none 0 0] 64))))
  rw [hE] at C1
  have HM := Lib.hid (pre_end w g p M f qs d h hE)
  have CT : Hid (∀ w3, Below w.heap.size w w3 → Calls Try.prog 76 #[.pointer (some ⟨g, 0, none⟩)] w3 (EndGot w3 g p)) := fun w3 hb => end_any w3 g p M f qs d (h.below hb)
  have HE := Lib.hid (fun B k s2 w4 hm => mid_end w g p M f qs d h B k s2 w4 hm 2 hE)
  clear h hE
  go_enter Try.func31, Try.ntmps31
  go_wp2_with (first
    | (go_at_call 74
       (with_reducible refine C1.out.mono ?_)
       rintro e w2 ⟨B, k, rfl, ho, hb⟩
       have HP := Lib.hid (pre_first w qs B k w2 ho hb)
       have CT2 := Lib.hid (CT.out _ HP.out.2.2.2.1)
       clear ho hb)
    | (go_at_call 76
       (with_reducible refine CT2.out.mono ?_)
       intro e w4 ht
       have HM4 := Lib.hid (HM.out B k _ _ w4 e HP.out ht)
       obtain ⟨hd0, hd1, hd2, _⟩ := box3_fz HM4.out.1
       obtain ⟨hc0, hc1, hc2, hf0, hf1, hf2⟩ := box3_fz HM4.out.2.1
       have hlt := HM4.out.2.1.lt
       obtain ⟨rfl, _⟩ := ht))
  have hb9 := off3 w4 w.heap.size (.int .i64 (cT qs)) (.int .i64 (cU qs)) (.slice B (cM qs) k)
  have h9 := ((HM4.out.2.1.set 0 (.int .i64 (cT qs))).set 1 (.int .i64 (cU qs))).set 2 (.slice B (cM qs) k)
  have hz9 := h9.lt
  have q0 := h9.cell 0
  have q1 := h9.cell 1
  have q2 := h9.cell 2
  exact bodyPost_ret (v := .tuple #[.agg #[.int .i64 (cT qs), .int .i64 (cU qs), .slice B (cM qs) k], .int .i64 2]) (by simp [results, Try.results31, go_sem, hz9, q0, q1, q2]) rfl (HE.out B k _ _ HM4.out)

theorem next_any (h : FAt w g p M f qs d) : Calls Try.prog 31 #[.pointer (some ⟨g, 0, none⟩)] w (NextGot w g p M qs d) := by
  rcases ge_some d qs with hE | hE | hE
  · exact next_ok w g p M f qs d h hE
  · exact next_end w g p M f qs d h hE
  · exact next_more w g p M f qs d h hE

end

/-- A new flow was returned. -/
def NewF (M : Nat) (w : World) (e : Ending) (w' : World) : Prop := ∃ g p, e = .returned (.pointer (some ⟨g, 0, none⟩)) ∧ FAt w' g p M 0 [] false ∧ w.heap.size ≤ g ∧ w.heap.size ≤ p ∧ Below w.heap.size w w'
theorem newf_made (M : Nat) (hM : M ≤ 65536) (w w2 : World) (p : Nat) (pl : List Int) (hp : w.heap.size < p) (hw : Whole .u8 w2 p 5 pl) (hl : pl.length = M) (hb : Below w.heap.size w w2) :
    NewF M w (.returned (.pointer (some ⟨w2.heap.size, 0, none⟩))) (w2.alloc (.cells #[.slice (some ⟨p, 0, none⟩) M M, .int .i64 0, .int .i64 0, .bool false] 123)) := by
  have hlt := hw.lt
  exact ⟨_, p, rfl, ⟨⟨by omega, hM, heap_alloc_new w2 _, pl, hw.below ((Below.refl _ _).alloc (Nat.le_refl _) _) hlt, hl, by simp, by omega, fun h => h, fun j hj => (by simp at hj)⟩, fun e => (by cases e), fun x hx => (by simp at hx)⟩, hb.size, Nat.le_of_lt hp, hb.alloc hb.size _⟩

set_option maxHeartbeats 1000000 in
theorem fnew_any (most : Int) (M : Nat) (w : World) (h0 : -9223372036854775808 ≤ most) (h1 : most ≤ 9223372036854775807) (hM : (M : Int) = if 65536 < (if most < 260 then 260 else most) then 65536 else (if most < 260 then 260 else most)) :
    Calls Try.prog 25 #[.int .i64 most] w (NewF M w) := by
  have hM2 : M ≤ 65536 := by split at hM <;> split at hM <;> omega
  have HN := Lib.hid (newf_made M hM2 w)
  have CN : Hid (∀ K : Int, K = (M : Int) → Calls Try.prog 69 #[.int .i64 K] w (NewQ M w)) := by
    intro K e
    subst e
    exact newq_any (M : Int) M w (by omega) (by omega) (by rw [if_neg (show ¬ (M : Int) < 0 by omega), if_neg (show ¬ (65536 : Int) < (M : Int) by omega)])
  by_cases hn : most < 260
  · have hk : (260 : Int) = (M : Int) := by rw [hM, if_pos hn]; rfl
    have C1 := Lib.hid (CN.out 260 hk)
    clear hM hM2 h0 hk CN
    go_enter Try.func25, Try.ntmps25
    go_wp2_with (
      (go_at_call 69
       (with_reducible refine C1.out.mono ?_)
       rintro e w2 ⟨p, pl, rfl, hp, hpl, hl, hb⟩
       have H9 := Lib.hid (HN.out w2 p pl hp hpl hl hb)
       clear hp hpl hl hb))
    go_ret
    exact H9.out
  · by_cases hx : 65536 < most
    · have hk : (65536 : Int) = (M : Int) := by rw [hM, if_neg hn, if_pos hx]
      have C1 := Lib.hid (CN.out 65536 hk)
      clear hM hM2 h0 hk CN
      go_enter Try.func25, Try.ntmps25
      go_wp2_with (
        (go_at_call 69
         (with_reducible refine C1.out.mono ?_)
         rintro e w2 ⟨p, pl, rfl, hp, hpl, hl, hb⟩
         have H9 := Lib.hid (HN.out w2 p pl hp hpl hl hb)
         clear hp hpl hl hb))
      go_ret
      exact H9.out
    · have hk : most = (M : Int) := by rw [hM, if_neg hn, if_neg hx]
      have C1 := Lib.hid (CN.out most hk)
      clear hM hM2 h0 hk CN
      go_enter Try.func25, Try.ntmps25
      go_wp2_with (
        (go_at_call 69
         (with_reducible refine C1.out.mono ?_)
         rintro e w2 ⟨p, pl, rfl, hp, hpl, hl, hb⟩
         have H9 := Lib.hid (HN.out w2 p pl hp hpl hl hb)
         clear hp hpl hl hb))
      go_ret
      exact H9.out

theorem aw_more : nQ false ([] ++ List.take 4 [0, 1, 0, 0]) = [0, 1, 0, 0] ∧ nM false ([] ++ List.take 4 [0, 1, 0, 0]) 300 = 300 ∧ nD false ([] ++ List.take 4 [0, 1, 0, 0]) = false ∧ gE false ([] ++ List.take 4 [0, 1, 0, 0]) = 3 ∧ cT ([] ++ List.take 4 [0, 1, 0, 0]) = 0 ∧ cU ([] ++ List.take 4 [0, 1, 0, 0]) = 0 ∧ cM ([] ++ List.take 4 [0, 1, 0, 0]) = 0 := by decide +kernel
theorem aw_ok : nQ false ([0, 1, 0, 0] ++ List.take 4 [0, 2, 9, 7]) = [] ∧ gE false ([0, 1, 0, 0] ++ List.take 4 [0, 2, 9, 7]) = 0 ∧ cT ([0, 1, 0, 0] ++ List.take 4 [0, 2, 9, 7]) = 1 ∧ cU ([0, 1, 0, 0] ++ List.take 4 [0, 2, 9, 7]) = 9 ∧ cM ([0, 1, 0, 0] ++ List.take 4 [0, 2, 9, 7]) = 1 ∧ cP ([0, 1, 0, 0] ++ List.take 4 [0, 2, 9, 7]) = [7] ∧ strOfNums [7] = ⟨#[7]⟩ := by decide +kernel
theorem aw_b1 : Bytes8 [0, 1, 0, 0] := by unfold Bytes8; decide
theorem aw_b2 : Bytes8 [0, 2, 9, 7] := by unfold Bytes8; decide

set_option maxRecDepth 100000 in
set_option maxHeartbeats 1000000 in
theorem awake10_any (w : World) : Calls Try.prog 24 #[] w fun e w' => e = .returned (.bool true) ∧ Below w.heap.size w w' := by
  go_enter Try.func24, Try.ntmps24
  go_wp2_with (first
    | (go_at_call 25
       refine (fnew_any 300 300 _ (by omega) (by omega) (by decide)).mono ?_
       rintro e w1 ⟨g, p, rfl, hr, hg, hp, hb⟩
       have HB1 := Lib.hid hb
       have HGP := Lib.hid (And.intro hg hp)
       have HLT1 := Lib.hid hr.q.lt
       have C2 := Lib.hid (feed_any (w1.alloc (.cells #[.int .u8 0, .int .u8 1, .int .u8 0, .int .u8 0] 5)) g p 300 0 [] false (some ⟨w1.heap.size, 0, none⟩) 4 4 [0, 1, 0, 0] 4 (hr.below ((Below.refl _ _).alloc (Nat.le_refl _) _)) aw_b1 (built_off w1 _ [0, 1, 0, 0] (by have := hr.q.lt; unfold GP; omega)) (by omega) (by omega) (show 4 = min 4 (300 - 0) by omega))
       clear hr hg hp hb)
    | (go_at_call 29
       (with_reducible refine C2.out.mono ?_)
       rintro e w2 ⟨rfl, hr, ho⟩
       have HB2 : Hid (Below w.heap.size w w2) := below_gp (HB1.out.alloc HB1.out.size _) (by have := HB1.out.size; simp; omega) ho HGP.out.1 HGP.out.2
       have C3 := Lib.hid (next_any w2 g p 300 0 _ false hr)
       clear hr ho)
    | (go_at_call 31
       (with_reducible refine C3.out.mono ?_)
       rintro e w3 ⟨B, k, rfl, _, ⟨f', p', hr, hp'⟩, ho⟩
       have HB3 : Hid (Below w.heap.size w w3) := below_gp HB2.out HB2.out.size ho HGP.out.1 HGP.out.2
       obtain ⟨hq, hm, hd, he, et, eu, em⟩ := aw_more
       rw [hq, hm, hd] at hr
       rw [he, et, eu, em]
       have hp2 : w.heap.size ≤ p' := by have h1 := HGP.out.2; have h2 := HB2.out.size; rcases hp' with h | h <;> omega
       have HGP3 : Hid (w.heap.size ≤ g ∧ w.heap.size ≤ p') := ⟨HGP.out.1, hp2⟩
       have hs3 := HB3.out.size
       have hl3 := hr.q.lt
       have hbo := built_off (w3.alloc (.cells #[.int .i64 0, .int .i64 0, .slice B 0 k] 64)) (GP g p') [0, 2, 9, 7] (by unfold GP; simp; omega)
       rw [show (w3.alloc (.cells #[.int .i64 0, .int .i64 0, .slice B 0 k] 64)).heap.size = w3.heap.size + 1 by simp] at hbo
       have C4 := Lib.hid (feed_any ((w3.alloc (.cells #[.int .i64 0, .int .i64 0, .slice B 0 k] 64)).alloc (.cells #[.int .u8 0, .int .u8 2, .int .u8 9, .int .u8 7] 5)) g p' 300 f' [0, 1, 0, 0] false (some ⟨w3.heap.size + 1, 0, none⟩) 4 4 [0, 2, 9, 7] 4 (hr.below (((Below.refl _ _).alloc (Nat.le_refl _) _).alloc (by simp) _)) aw_b2 hbo (by omega) (by omega) (show 4 = min 4 (300 - 4) by omega))
       clear hr ho hq hm hd he hp2 hp' et eu em hs3 hl3 hbo)
    | (go_at_call 29
       (with_reducible refine C4.out.mono ?_)
       rintro e w4 ⟨rfl, hr, ho⟩
       have HB4 : Hid (Below w.heap.size w w4) := below_gp ((HB3.out.alloc HB3.out.size _).alloc (by have := HB3.out.size; simp; omega) _) (by have := HB3.out.size; simp; omega) ho HGP3.out.1 HGP3.out.2
       have C5 := Lib.hid (next_any w4 g p' 300 f' _ false hr)
       clear hr ho)
    | (go_at_call 31
       (with_reducible refine C5.out.mono ?_)
       rintro e w5 ⟨B5, k5, rfl, ho5, ⟨f5, p5, hr, hp'⟩, ho⟩
       have HB5 : Hid (Below w.heap.size w w5) := below_gp HB4.out HB4.out.size ho HGP3.out.1 HGP3.out.2
       obtain ⟨hq, he, et, eu, em, ep, hst⟩ := aw_ok
       rw [hq] at hr
       rw [em, ep] at ho5
       rw [he, et, eu, em]
       have HR5 := Lib.hid (fun o => hr.below ((Below.refl w5.heap.size w5).alloc (Nat.le_refl _) o))
       have hcv := fun o => conv_row B5 1 k5 [7] (w5.alloc o) (((own_row ho5).ints.below ((Below.refl w5.heap.size w5).alloc (Nat.le_refl _) o)).more (by simp))
       rw [hst] at hcv
       clear hr ho hq he et eu em ep hp' ho5 hst)
    | (go_at_call 33
       refine (fheld_any _ g p5 _ f5 [] _ (HR5.out _)).mono ?_
       rintro e w6 ⟨rfl, rfl⟩))
  go_ret
  exact ⟨rfl, HB5.out.alloc HB5.out.size _⟩

end Go.Proofs.Ythmendcdfhlkkaa
