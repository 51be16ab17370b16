/- Package flow: what a flow is; New, Feed, Held, Bad, first, Ready, end, Next. No statement is proved here. -/
import Derived.Test.YthmendcdfhlkkaaFCut
import Derived.Test.YthmendcdfhlkkaaPlayInv
namespace Go.Proofs.Ythmendcdfhlkkaa
open Go.ChangeShapes Go.WideShapes Go.ChangeAt Go.RowKit
set_option linter.unusedVariables false
set_option linter.unusedSimpArgs false

/-- What a walk is told of a box of three cells when it stores into it. -/
theorem box3_fz {w : World} {g : Nat} {T : TypeId} {a0 a1 a2 : Value} (h : WholeV w g T [a0, a1, a2]) :
    w.cell? ⟨g, 0, none⟩ = some a0 ∧ w.cell? ⟨g, 1, none⟩ = some a1 ∧ w.cell? ⟨g, 2, none⟩ = some a2 ∧ w.frozen? ⟨g, 0, none⟩ = false ∧ (∀ v, (w.setCell ⟨g, 0, none⟩ v).frozen? ⟨g, 1, none⟩ = false) ∧ ∀ v v', ((w.setCell ⟨g, 0, none⟩ v).setCell ⟨g, 1, none⟩ v').frozen? ⟨g, 2, none⟩ = false :=
  ⟨h.cell 0, h.cell 1, h.cell 2, h.frozen 0, fun v => (h.set 0 v).frozen 1, fun v v' => ((h.set 0 v).set 1 v').frozen 2⟩
theorem set3b {w w0 : World} {B g : Nat} {T : TypeId} {a0 a1 a2 : Value} (h : WholeV w g T [a0, a1, a2]) (hb : Below B w0 w) (hg : B ≤ g) (b0 b1 b2 : Value) :
    WholeV (((w.setCell ⟨g, 0, none⟩ b0).setCell ⟨g, 1, none⟩ b1).setCell ⟨g, 2, none⟩ b2) g T [b0, b1, b2] ∧ Below B w0 (((w.setCell ⟨g, 0, none⟩ b0).setCell ⟨g, 1, none⟩ b1).setCell ⟨g, 2, none⟩ b2) :=
  ⟨((h.set 0 b0).set 1 b1).set 2 b2, ((hb.setCell (p := ⟨g, 0, none⟩) hg b0).setCell (p := ⟨g, 1, none⟩) hg b1).setCell (p := ⟨g, 2, none⟩) hg b2⟩

/-- Block g is a flow, its places in block p; qs wait; d: is it bad? -/
structure FAt (w : World) (g p M f : Nat) (qs : List Int) (d : Bool) : Prop where
  q : QAt 123 [.bool d] w g p M f qs
  dead : d = true → qs = [] ∧ M = 0
  bytes : Bytes8 qs
theorem FAt.off {S : Nat → Prop} {w w' : World} {g p M f : Nat} {qs : List Int} {d : Bool} (h : FAt w g p M f qs d) (ho : Off S w w') (hg : ¬ S g) (hp : ¬ S p) : FAt w' g p M f qs d := ⟨h.q.off ho hg hp, h.dead, h.bytes⟩
theorem FAt.below {w w' : World} {g p M f : Nat} {qs : List Int} {d : Bool} (h : FAt w g p M f qs d) (hb : Below w.heap.size w w') : FAt w' g p M f qs d := ⟨h.q.below hb, h.dead, h.bytes⟩
theorem FAt.drewN {w : World} {g p M f : Nat} {qs : List Int} {d : Bool} (h : FAt w g p M f qs d) (n : Nat) : FAt (w.drewN n) g p M f qs d := ⟨h.q.drewN n, h.dead, h.bytes⟩

/-- The code that is told. -/
def gE (d : Bool) (zs : List Int) : Int := if d = true then 2 else cE zs
theorem ge_some (d : Bool) (zs : List Int) : gE d zs = 0 ∨ gE d zs = 2 ∨ gE d zs = 3 := by
  unfold gE
  split
  · exact .inr (.inl rfl)
  · exact ce_some zs
/-- What is there after one is asked for. -/
def nQ (d : Bool) (zs : List Int) : List Int := if gE d zs = 2 then [] else zs.drop (cN zs)
def nD (d : Bool) (zs : List Int) : Bool := decide (gE d zs = 2)
def nM (d : Bool) (zs : List Int) (M : Nat) : Nat := if gE d zs = 2 then 0 else M
theorem ce_nil : cE [] = 3 := rfl

/-- A new queue's value was returned. -/
def NewQ (M : Nat) (w : World) (e : Ending) (w' : World) : Prop := ∃ p pl, e = .returned (.agg #[.slice (some ⟨p, 0, none⟩) M M, .int .i64 0, .int .i64 0]) ∧ w.heap.size < p ∧ Whole .u8 w' p 5 pl ∧ pl.length = M ∧ Below w.heap.size w w'

set_option maxRecDepth 100000 in
set_option maxHeartbeats 1000000 in
theorem newq_any (most : Int) (M : Nat) (w : World) (h0 : -9223372036854775808 ≤ most) (h1 : most ≤ 9223372036854775807) (hM : (M : Int) = if 65536 < (if most < 0 then 0 else most) then 65536 else (if most < 0 then 0 else most)) :
    Calls Try.prog 69 #[.int .i64 most] w (NewQ M w) := by
  have C1 := Lib.hid (fun W => new_any most M W h0 h1 hM)
  clear h0 h1 hM
  go_enter Try.func69, Try.ntmps69
  go_wp2_with (first
    | (go_at_call 113
       (with_reducible refine (C1.out _).mono ?_)
       rintro e w2 ⟨g, p, rfl, hr, hg, hp, hb⟩
       obtain ⟨pl, hpl, hl, _⟩ := hr.holds
       have HP2 := Lib.hid hpl
       have HL2 := Lib.hid hl
       have HGP : Hid (w.heap.size < g ∧ w.heap.size < p) := by simp at hg hp; show _ ∧ _; omega
       have c0 : w2.cell? ⟨g, 0, none⟩ = some (.slice (some ⟨p, 0, none⟩) M M) := hr.head.cell 0
       have c1 : w2.cell? ⟨g, 1, none⟩ = some (.int .i64 0) := hr.head.cell 1
       have c2 : w2.cell? ⟨g, 2, none⟩ = some (.int .i64 0) := hr.head.cell 2
       replace hb := below_alloc1 hb
       have HX2 := Lib.hid (box3 _ _ _ _ _ _ hb)
       have HB2 := Lib.hid (below_alloc0 hb)
       have hlt2 : w.heap.size < w2.heap.size := HX2.out.lt
       obtain ⟨hc0, hc1, hc2, hf0, hf1, hf2⟩ := box3_fz HX2.out
       clear hb hr hg hp hpl hl))
  obtain ⟨h9, hb9⟩ := set3b HX2.out HB2.out (Nat.le_refl _) (.slice (some ⟨p, 0, none⟩) M M) (.int .i64 0) (.int .i64 0)
  have hz9 := h9.lt
  have q0 := h9.cell 0
  have q1 := h9.cell 1
  have q2 := h9.cell 2
  refine bodyPost_ret (v := .agg #[.slice (some ⟨p, 0, none⟩) M M, .int .i64 0, .int .i64 0]) (by simp [results, Try.results69, go_sem, hz9, q0, q1, q2]) rfl ?_
  refine ⟨p, pl, rfl, HGP.out.2, ?_, HL2.out, hb9⟩
  have hne := Nat.ne_of_gt HGP.out.2
  exact (Below.heap_setCell _ _ _ _ hne).trans ((Below.heap_setCell _ _ _ _ hne).trans ((Below.heap_setCell _ _ _ _ hne).trans HP2.out))

/-- What stands in a row that was made, after stores into a box ahead of it. -/
theorem gotE_end {B : Option Addr} {d : Nat} {E : Int} {zs : List Int} {w w2 w3 w9 : World} (hX : w.heap.size < w2.heap.size)
    (ho : w3.ownsRow w2.heap.size 5 1 (.slice B (cM zs) d) (cM zs) ((cP zs).map (Value.int .u8))) (h9 : Off (fun k => k = w.heap.size) w3 w9) (hb : Below w.heap.size w w9) :
    GotE E zs w (.returned (.tuple #[.agg #[.int .i64 (cT zs), .int .i64 (cU zs), .slice B (cM zs) d], .int .i64 (cN zs : Int), .int .i64 E])) w9 :=
  ⟨B, d, rfl, own_mono (h9.own ho (fun k hk _ e => by omega)) (by omega), hb⟩
theorem off3 (w : World) (g : Nat) (b0 b1 b2 : Value) : Off (fun k => k = g) w (((w.setCell ⟨g, 0, none⟩ b0).setCell ⟨g, 1, none⟩ b1).setCell ⟨g, 2, none⟩ b2) :=
  (((Off.refl (fun k => k = g) w).setCell (p := ⟨g, 0, none⟩) (.inl rfl) b0).setCell (p := ⟨g, 1, none⟩) (.inl rfl) b1).setCell (p := ⟨g, 2, none⟩) (.inl rfl) b2

set_option maxRecDepth 100000 in
set_option maxHeartbeats 1000000 in
theorem fcut_any {T : TypeId} {X : List Value} (w : World) (g p M f : Nat) (qs : List Int) (h : QAt T X w g p M f qs) (hx : Bytes8 qs) :
    Calls Try.prog 116 #[.pointer (some ⟨g, 0, none⟩)] w (CutGot qs w) := by
  obtain ⟨m, hm⟩ := cnt_some 260 qs.length
  have hm2 : m = min 260 qs.length := by unfold Cnt at hm; omega
  have htk : qs.take m = qs.take 260 := by rw [hm2, List.take_eq_take_iff]; omega
  have C1 := Lib.hid (fun W (hb : Below w.heap.size w W) => look_any W g p M f qs 260 m (h.below hb) hm)
  have C2 := Lib.hid (fun W b (hw : Whole .u8 W b 5 (qs.take m)) => (acut_any (some ⟨b, 0, none⟩) m m (qs.take 260) W (by
    have hr := hw.row
    rw [htk] at hr
    rwa [show (qs.take 260).length = m by rw [List.length_take]; omega] at hr) (take_bytes8 hx 260) (by omega) (Nat.le_refl _)).mono fun e w' h => cutgot_take h)
  clear h hm hm2 htk
  go_enter Try.func116, Try.ntmps116
  go_wp2_with (first
    | (go_at_call 117
       refine (C1.out _ ((Below.refl _ _).alloc (Nat.le_refl _) _)).mono ?_
       rintro e w2 ⟨b, rfl, hbb, hW, hb⟩
       replace hb := below_alloc1 hb
       have HB2 := Lib.hid hb
       have C3 := Lib.hid (C2.out w2 b hW)
       clear hb hbb hW)
    | (go_at_call 128
       (with_reducible refine C3.out.mono ?_)
       rintro e w3 ⟨B, d, rfl, ho, hb3⟩
       have HO3 := Lib.hid ho
       have hs2 : w.heap.size < w2.heap.size := (box3 _ _ _ _ _ _ HB2.out).lt
       have HB3 : Hid (Below (w.heap.size + 1) _ w3) := HB2.out.trans (hb3.mono (by omega))
       have HS2 := Lib.hid hs2
       have HX3 := Lib.hid (box3 _ _ _ _ _ _ HB3.out)
       have HB30 := Lib.hid (below_alloc0 HB3.out)
       have hlt3 : w.heap.size < w3.heap.size := HX3.out.lt
       obtain ⟨hc0, hc1, hc2, hf0, hf1, hf2⟩ := box3_fz HX3.out
       clear ho hb3 hs2))
  obtain ⟨h9, hb9⟩ := set3b HX3.out HB30.out (Nat.le_refl _) (.int .i64 (cT qs)) (.int .i64 (cU qs)) (.slice B (cM qs) d)
  have hz9 := h9.lt
  have q0 := h9.cell 0
  have q1 := h9.cell 1
  have q2 := h9.cell 2
  exact bodyPost_ret (v := .tuple #[.agg #[.int .i64 (cT qs), .int .i64 (cU qs), .slice B (cM qs) d], .int .i64 (cN qs : Int), .int .i64 (cE qs)]) (by simp [results, Try.results116, go_sem, hz9, q0, q1, q2]) rfl
    (gotE_end HS2.out HO3.out (off3 _ _ _ _ _) hb9)

section
variable (w : World) (g p M f : Nat) (qs : List Int) (d : Bool)

theorem fheld_any (h : FAt w g p M f qs d) : Calls Try.prog 33 #[.pointer (some ⟨g, 0, none⟩)] w fun e w' => e = .returned (.int .i64 (qs.length : Int)) ∧ w = w' := by
  have C1 := Lib.hid (len_any w g p M f qs h.q)
  clear h
  go_enter Try.func33, Try.ntmps33
  go_wp2_with (go_at_call 79; (with_reducible refine C1.out.mono ?_); rintro e w1 ⟨rfl, rfl⟩)
  go_ret
  exact ⟨rfl, rfl⟩

theorem fbad_any (h : FAt w g p M f qs d) : Calls Try.prog 34 #[.pointer (some ⟨g, 0, none⟩)] w fun e w' => e = .returned (.bool d) ∧ w = w' := by
  have c3 := h.q.head.cell 3
  simp only [List.getElem?_cons_succ, List.getElem?_cons_zero] at c3
  clear h
  go_enter Try.func34, Try.ntmps34
  go_wp2
  go_ret
  exact ⟨rfl, rfl⟩

/-- What Feed leaves. -/
def Fed (m : Nat) (zs : List Int) (e : Ending) (w' : World) : Prop := e = .returned (.int .i64 (m : Int)) ∧ FAt w' g p M f (qs ++ zs.take m) d ∧ Off (GP g p) w w'

set_option maxHeartbeats 1000000 in
theorem feed_any (A : Option Addr) (n c : Nat) (zs : List Int) (m : Nat) (h : FAt w g p M f qs d) (hx : Bytes8 zs) (hr : RowOff w (GP g p) A n zs) (hn : n ≤ 100000) (hc : n ≤ c) (hm : m = min n (M - qs.length)) :
    Calls Try.prog 29 #[.pointer (some ⟨g, 0, none⟩), .slice A n c] w (Fed w g p M f qs d m zs) := by
  have C1 := Lib.hid (put_any w g p M f qs A n c zs m h.q hr hn hc hm)
  have HE : Hid (∀ w', QPut w g p M f qs 123 [.bool d] m zs (.returned (.int .i64 (m : Int))) w' → Fed w g p M f qs d m zs (.returned (.int .i64 (m : Int))) w') := by
    rintro w' ⟨_, hq, ho⟩
    refine ⟨rfl, ⟨hq, fun hd => ?_, fun x hxm => ?_⟩, ho⟩
    · obtain ⟨h1, h2⟩ := h.dead hd
      subst h1 h2
      obtain rfl : m = 0 := by simpa using hm
      exact ⟨by simp, rfl⟩
    · rcases List.mem_append.1 hxm with hxm | hxm
      · exact h.bytes x hxm
      · exact hx x (List.mem_of_mem_take hxm)
  clear h hr hc hm
  go_enter Try.func29, Try.ntmps29
  go_wp2_with (
    (go_at_call 72
     (with_reducible refine C1.out.mono ?_)
     rintro e w1 ⟨rfl, hq, ho⟩
     have H9 := Lib.hid (HE.out w1 ⟨rfl, hq, ho⟩)
     clear hq ho))
  go_ret
  exact H9.out

set_option maxRecDepth 100000 in
set_option maxHeartbeats 1000000 in
theorem first_any (h : FAt w g p M f qs d) : Calls Try.prog 74 #[.pointer (some ⟨g, 0, none⟩)] w (GotE (gE d qs) qs w) := by
  have hq := h.q.below ((Below.refl _ _).alloc (Nat.le_refl _) (.cells #[.int .i64 0, .int .i64 0, .slice none 0 0] 64))
  have c3 := hq.head.cell 3
  simp only [List.getElem?_cons_succ, List.getElem?_cons_zero] at c3
  cases d with
  | true =>
    obtain ⟨h1, _⟩ := h.dead rfl
    subst h1
    have HX : Hid (WholeV (w.alloc (.cells #[.int .i64 0, .int .i64 0, .slice none 0 0] 64)) w.heap.size 64 [.int .i64 0, .int .i64 0, .slice none 0 0]) := heap_alloc_new w _
    have HB : Hid (Below w.heap.size w (w.alloc (.cells #[.int .i64 0, .int .i64 0, .slice none 0 0] 64))) := (Below.refl _ _).alloc (Nat.le_refl _) _
    obtain ⟨hc0, hc1, hc2, hf0, hf1, hf2⟩ := box3_fz HX.out
    have hlt := HX.out.lt
    clear h hq
    go_enter Try.func74, Try.ntmps74
    go_wp2
    exact bodyPost_ret (v := .tuple #[.agg #[.int .i64 0, .int .i64 0, .slice none 0 0], .int .i64 0, .int .i64 2]) (by simp [results, Try.results74, go_sem, hlt, hc0, hc1, hc2]) rfl
      ⟨none, 0, rfl, own_none _ _ _, HB.out⟩
  | false =>
    have C1 := Lib.hid (fcut_any _ g p M f qs hq h.bytes)
    clear h hq
    go_enter Try.func74, Try.ntmps74
    go_wp2_with (
      (go_at_call 116
       (with_reducible refine C1.out.mono ?_)
       rintro e w3 ⟨B, k, rfl, ho, hb3⟩
       have HO3 := Lib.hid ho
       replace hb3 := below_alloc1 hb3
       have HX3 := Lib.hid (box3 _ _ _ _ _ _ hb3)
       have HB30 := Lib.hid (below_alloc0 hb3)
       have hlt3 : w.heap.size < w3.heap.size := HX3.out.lt
       obtain ⟨hc0, hc1, hc2, hf0, hf1, hf2⟩ := box3_fz HX3.out
       clear ho hb3))
    obtain ⟨h9, hb9⟩ := set3b HX3.out HB30.out (Nat.le_refl _) (.int .i64 (cT qs)) (.int .i64 (cU qs)) (.slice B (cM qs) k)
    have hz9 := h9.lt
    have q0 := h9.cell 0
    have q1 := h9.cell 1
    have q2 := h9.cell 2
    exact bodyPost_ret (v := .tuple #[.agg #[.int .i64 (cT qs), .int .i64 (cU qs), .slice B (cM qs) k], .int .i64 (cN qs : Int), .int .i64 (cE qs)]) (by simp [results, Try.results74, go_sem, hz9, q0, q1, q2]) rfl
      (gotE_end (by simp) HO3.out (off3 _ _ _ _ _) hb9)

end

end Go.Proofs.Ythmendcdfhlkkaa
