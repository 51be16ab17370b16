/- Package flow: Next; its places are made anew only where it ends. No statement is proved here. -/
import Derived.Test.YthmendcdfhlkkaaJFlowBad4
namespace Go.Proofs.Ythmendcdfhlkkaa
open Go.ChangeShapes Go.WideShapes Go.ChangeAt Go.RowKit
set_option linter.unusedVariables false
set_option linter.unusedSimpArgs false

section
variable (w : World) (g p M f : Nat) (qs : List Int) (d : Bool)

/-- What Next leaves. -/
def NextGotS (e : Ending) (w' : World) : Prop := ∃ B k, e = .returned (.tuple #[.agg #[.int .i64 (cT qs), .int .i64 (cU qs), .slice B (cM qs) k], .int .i64 (gE d qs)]) ∧
  w'.ownsRow w.heap.size 5 1 (.slice B (cM qs) k) (cM qs) ((cP qs).map (Value.int .u8)) ∧ (∃ f' p', FAt w' g p' (nM d qs M) f' (nQ d qs) (nD d qs) ∧ (p' = p ∨ (gE d qs = 2 ∧ w.heap.size ≤ p'))) ∧ Off (GP g p) w w'

/-- What stands ahead of the last region of Next. -/
def MidS (B : Option Addr) (k s2 : Nat) (w4 : World) : Prop :=
  WholeV w4 s2 64 [.int .i64 (cT qs), .int .i64 (cU qs), .slice B (cM qs) k] ∧ WholeV w4 w.heap.size 64 [.int .i64 0, .int .i64 0, .slice none 0 0] ∧
  w4.ownsRow (w.heap.size + 1) 5 1 (.slice B (cM qs) k) (cM qs) ((cP qs).map (Value.int .u8)) ∧ (∃ f' p', FAt w4 g p' (nM d qs M) f' (nQ d qs) (nD d qs) ∧ (p' = p ∨ (gE d qs = 2 ∧ w.heap.size < p'))) ∧ Off (GP g p) w w4

theorem mids_end (h : FAt w g p M f qs d) (B : Option Addr) (k s2 : Nat) (w4 : World) (hm : MidS w g p M qs d B k s2 w4) (E : Int) (hE : gE d qs = E) :
    NextGotS w g p M qs d (.returned (.tuple #[.agg #[.int .i64 (cT qs), .int .i64 (cU qs), .slice B (cM qs) k], .int .i64 E])) (((w4.setCell ⟨w.heap.size, 0, none⟩ (.int .i64 (cT qs))).setCell ⟨w.heap.size, 1, none⟩ (.int .i64 (cU qs))).setCell ⟨w.heap.size, 2, none⟩ (.slice B (cM qs) k)) := by
  subst hE
  obtain ⟨h1, h2, h3, ⟨f', p', h4, h5⟩, h6⟩ := hm
  have ho := off3 w4 w.heap.size (.int .i64 (cT qs)) (.int .i64 (cU qs)) (.slice B (cM qs) k)
  have hl := h.q.lt
  refine ⟨B, k, rfl, own_mono (ho.own h3 (fun k hk _ e => by omega)) (by omega), ⟨f', p', h4.off ho (fun e => by omega) (fun e => by omega), by omega⟩, ?_⟩
  exact (((h6.setCell (p := ⟨w.heap.size, 0, none⟩) (.inr (Nat.le_refl _)) _).setCell (p := ⟨w.heap.size, 1, none⟩) (.inr (Nat.le_refl _)) _).setCell (p := ⟨w.heap.size, 2, none⟩) (.inr (Nat.le_refl _)) _)

theorem pres_more (h : FAt w g p M f qs d) (hE : gE d qs = 3) (B : Option Addr) (k s2 : Nat) (w3 : World) (hp : Pre w qs B k s2 w3) : MidS w g p M qs d B k s2 w3 := by
  obtain ⟨h1, h2, h3, h4, h5⟩ := hp
  have hd : d = false := by
    cases d with
    | true => unfold gE at hE; simp at hE
    | false => rfl
  subst hd
  have hc : cE qs = 3 := by unfold gE at hE; simpa using hE
  have e1 : nM false qs M = M := by unfold nM; rw [if_neg (by rw [hE]; decide)]
  have e2 : nQ false qs = qs := by unfold nQ; rw [if_neg (by rw [hE]; decide), (c_err (by rw [hc]; decide)).2.1]; rfl
  have e3 : nD false qs = false := by unfold nD; rw [hE]; rfl
  exact ⟨h1, h2, h3, ⟨f, p, by rw [e1, e2, e3]; exact h.below h4, .inl rfl⟩, Off.of_below h4⟩
theorem pres_ok (h : FAt w g p M f qs d) (hE : gE d qs = 0) (B : Option Addr) (k s2 : Nat) (w3 w4 : World) (e : Ending) (hp : Pre w qs B k s2 w3) (ht : QTake w3 g p M f qs 123 [.bool d] (cN qs) e w4) : MidS w g p M qs d B k s2 w4 := by
  obtain ⟨h1, h2, h3, h4, h5⟩ := hp
  obtain ⟨b, _, hb, hW, hq, ho⟩ := ht
  have hl := h.q.lt
  have hd : d = false := by
    cases d with
    | true => unfold gE at hE; simp at hE
    | false => rfl
  subst hd
  have e1 : nM false qs M = M := by unfold nM; rw [if_neg (by rw [hE]; decide)]
  have e2 : nQ false qs = qs.drop (cN qs) := by unfold nQ; rw [if_neg (by rw [hE]; decide)]
  have e3 : nD false qs = false := by unfold nD; rw [hE]; rfl
  refine ⟨ho.whole h1 (fun e => by rcases e with e | e <;> omega), ho.whole h2 (fun e => by rcases e with e | e <;> omega), ho.own h3 (fun k hk _ e => by rcases e with e | e <;> omega), ⟨plc M f (cN qs), p, ?_, .inl rfl⟩, (Off.of_below h4).trans ho (fun i hi => .inl hi)⟩
  rw [e1, e2, e3]
  exact ⟨hq, fun e => (by cases e), fun x hx => h.bytes x (List.mem_of_mem_drop hx)⟩
theorem pres_end (h : FAt w g p M f qs d) (hE : gE d qs = 2) (B : Option Addr) (k s2 : Nat) (w3 w4 : World) (e : Ending) (hp : Pre w qs B k s2 w3) (ht : EndGot w3 g p e w4) : MidS w g p M qs d B k s2 w4 := by
  obtain ⟨h1, h2, h3, h4, h5⟩ := hp
  obtain ⟨_, p', hq, ho, hp'⟩ := ht
  have hl := h.q.lt
  have hs := h2.lt
  have e1 : nM d qs M = 0 := by unfold nM; rw [if_pos hE]
  have e2 : nQ d qs = [] := by unfold nQ; rw [if_pos hE]
  have e3 : nD d qs = true := by unfold nD; rw [hE]; rfl
  refine ⟨ho.whole h1 (fun e => by rcases e with e | e <;> omega), ho.whole h2 (fun e => by rcases e with e | e <;> omega), ho.own h3 (fun k hk _ e => by rcases e with e | e <;> omega), ⟨0, p', ?_, .inr ⟨hE, by omega⟩⟩, (Off.of_below h4).trans ho (fun i hi => .inl hi)⟩
  rw [e1, e2, e3]
  exact hq

set_option maxRecDepth 100000 in
set_option maxHeartbeats 1000000 in
theorem nexts_more (h : FAt w g p M f qs d) (hE : gE d qs = 3) : Calls Try.prog 31 #[.pointer (some ⟨g, 0, none⟩)] w (NextGotS w g p M qs d) := by
  have C1 := Lib.hid (first_any _ g p M f qs d (h.below ((Below.refl _ _).alloc (Nat.le_refl _) (.cells #[.int .i64 0, .int .i64 0, .slice none 0 0] 64))))
  rw [hE] at C1
  have HM := Lib.hid (pres_more w g p M f qs d h hE)
  have HE := Lib.hid (fun B k s2 w4 hm => mids_end w g p M f qs d h B k s2 w4 hm 3 hE)
  clear h hE
  go_enter Try.func31, Try.ntmps31
  go_wp2_with (
    (go_at_call 74
     (with_reducible refine C1.out.mono ?_)
     rintro e w2 ⟨B, k, rfl, ho, hb⟩
     have HP := Lib.hid (pre_first w qs B k w2 ho hb)
     have HM4 := Lib.hid (HM.out B k _ _ HP.out)
     obtain ⟨hd0, hd1, hd2, _⟩ := box3_fz HM4.out.1
     obtain ⟨hc0, hc1, hc2, hf0, hf1, hf2⟩ := box3_fz HM4.out.2.1
     have hlt := HM4.out.2.1.lt
     clear ho hb HM))
  have hb9 := off3 (w2.alloc (.cells #[.int .i64 (cT qs), .int .i64 (cU qs), .slice B (cM qs) k] 64)) w.heap.size (.int .i64 (cT qs)) (.int .i64 (cU qs)) (.slice B (cM qs) k)
  have h9 := ((HM4.out.2.1.set 0 (.int .i64 (cT qs))).set 1 (.int .i64 (cU qs))).set 2 (.slice B (cM qs) k)
  have hz9 := h9.lt
  have q0 := h9.cell 0
  have q1 := h9.cell 1
  have q2 := h9.cell 2
  exact bodyPost_ret (v := .tuple #[.agg #[.int .i64 (cT qs), .int .i64 (cU qs), .slice B (cM qs) k], .int .i64 3]) (by simp [results, Try.results31, go_sem, hz9, q0, q1, q2]) rfl (HE.out B k _ _ HM4.out)

set_option maxRecDepth 100000 in
set_option maxHeartbeats 1000000 in
theorem nexts_ok (h : FAt w g p M f qs d) (hE : gE d qs = 0) : Calls Try.prog 31 #[.pointer (some ⟨g, 0, none⟩)] w (NextGotS w g p M qs d) := by
  have C1 := Lib.hid (first_any _ g p M f qs d (h.below ((Below.refl _ _).alloc (Nat.le_refl _) (.cells #[.int .i64 0, .int .i64 0, .slice none 0 0] 64))))
  rw [hE] at C1
  have HM := Lib.hid (pres_ok w g p M f qs d h hE)
  have CT : Hid (∀ w3, Below w.heap.size w w3 → Calls Try.prog 75 #[.pointer (some ⟨g, 0, none⟩), .int .i64 (cN qs : Int)] w3 (QTake w3 g p M f qs 123 [.bool d] (cN qs))) := fun w3 hb => take_any w3 g p M f qs (cN qs : Int) (cN qs) (h.below hb).q (.inr (.inl ⟨by omega, rfl, cN_le qs⟩))
  have HE := Lib.hid (fun B k s2 w4 hm => mids_end w g p M f qs d h B k s2 w4 hm 0 hE)
  clear h hE
  go_enter Try.func31, Try.ntmps31
  go_wp2_with (first
    | (go_at_call 74
       (with_reducible refine C1.out.mono ?_)
       rintro e w2 ⟨B, k, rfl, ho, hb⟩
       have HP := Lib.hid (pre_first w qs B k w2 ho hb)
       have CT2 := Lib.hid (CT.out _ HP.out.2.2.2.1)
       clear ho hb)
    | (go_at_call 75
       (with_reducible refine CT2.out.mono ?_)
       intro e w4 ht
       have HM4 := Lib.hid (HM.out B k _ _ w4 e HP.out ht)
       obtain ⟨hd0, hd1, hd2, _⟩ := box3_fz HM4.out.1
       obtain ⟨hc0, hc1, hc2, hf0, hf1, hf2⟩ := box3_fz HM4.out.2.1
       have hlt := HM4.out.2.1.lt
       obtain ⟨b, rfl, _⟩ := ht))
  have hb9 := off3 w4 w.heap.size (.int .i64 (cT qs)) (.int .i64 (cU qs)) (.slice B (cM qs) k)
  have h9 := ((HM4.out.2.1.set 0 (.int .i64 (cT qs))).set 1 (.int .i64 (cU qs))).set 2 (.slice B (cM qs) k)
  have hz9 := h9.lt
  have q0 := h9.cell 0
  have q1 := h9.cell 1
  have q2 := h9.cell 2
  exact bodyPost_ret (v := .tuple #[.agg #[.int .i64 (cT qs), .int .i64 (cU qs), .slice B (cM qs) k], .int .i64 0]) (by simp [results, Try.results31, go_sem, hz9, q0, q1, q2]) rfl (HE.out B k _ _ HM4.out)

set_option maxRecDepth 100000 in
set_option maxHeartbeats 1000000 in
theorem nexts_end (h : FAt w g p M f qs d) (hE : gE d qs = 2) : Calls Try.prog 31 #[.pointer (some ⟨g, 0, none⟩)] w (NextGotS w g p M qs d) := by
  have C1 := Lib.hid (first_any _ g p M f qs d (h.below ((Below.refl _ _).alloc (Nat.le_refl _) (.cells #[.int .i64 0, .int .i64 0, .slice none 0 0] 64))))
  rw [hE] at C1
  have HM := Lib.hid (pres_end w g p M f qs d h hE)
  have CT : Hid (∀ w3, Below w.heap.size w w3 → Calls Try.prog 76 #[.pointer (some ⟨g, 0, none⟩)] w3 (EndGot w3 g p)) := fun w3 hb => end_any w3 g p M f qs d (h.below hb)
  have HE := Lib.hid (fun B k s2 w4 hm => mids_end w g p M f qs d h B k s2 w4 hm 2 hE)
  clear h hE
  go_enter Try.func31, Try.ntmps31
  go_wp2_with (first
    | (go_at_call 74
       (with_reducible refine C1.out.mono ?_)
       rintro e w2 ⟨B, k, rfl, ho, hb⟩
       have HP := Lib.hid (pre_first w qs B k w2 ho hb)
       have CT2 := Lib.hid (CT.out _ HP.out.2.2.2.1)
       clear ho hb)
    | (go_at_call 76
       (with_reducible refine CT2.out.mono ?_)
       intro e w4 ht
       have HM4 := Lib.hid (HM.out B k _ _ w4 e HP.out ht)
       obtain ⟨hd0, hd1, hd2, _⟩ := box3_fz HM4.out.1
       obtain ⟨hc0, hc1, hc2, hf0, hf1, hf2⟩ := box3_fz HM4.out.2.1
       have hlt := HM4.out.2.1.lt
       obtain ⟨rfl, _⟩ := ht))
  have hb9 := off3 w4 w.heap.size (.int .i64 (cT qs)) (.int .i64 (cU qs)) (.slice B (cM qs) k)
  have h9 := ((HM4.out.2.1.set 0 (.int .i64 (cT qs))).set 1 (.int .i64 (cU qs))).set 2 (.slice B (cM qs) k)
  have hz9 := h9.lt
  have q0 := h9.cell 0
  have q1 := h9.cell 1
  have q2 := h9.cell 2
  exact bodyPost_ret (v := .tuple #[.agg #[.int .i64 (cT qs), .int .i64 (cU qs), .slice B (cM qs) k], .int .i64 2]) (by simp [results, Try.results31, go_sem, hz9, q0, q1, q2]) rfl (HE.out B k _ _ HM4.out)

theorem nexts_any (h : FAt w g p M f qs d) : Calls Try.prog 31 #[.pointer (some ⟨g, 0, none⟩)] w (NextGotS w g p M qs d) := by
  rcases ge_some d qs with hE | hE | hE
  · exact nexts_ok w g p M f qs d h hE
  · exact nexts_end w g p M f qs d h hE
  · exact nexts_more w g p M f qs d h hE

end

end Go.Proofs.Ythmendcdfhlkkaa
