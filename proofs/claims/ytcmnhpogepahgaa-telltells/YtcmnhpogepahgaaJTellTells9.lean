/- Joined: PList PPut. -/
import Derived.Test.YtcmnhpogepahgaaStep
import Derived.Test.YtcmnhpogepahgaaPSmall
import Derived.Test.YtcmnhpogepahgaaAskWords
import Derived.Test.YtcmnhpogepahgaaBitsPack
namespace Go.Proofs.Ytcmnhpogepahgaa
open Go.ChangeShapes Go.WideShapes Go.ChangeAt Go.RowKit
set_option linter.unusedVariables false
set_option linter.unusedSimpArgs false

/-- A row outside of a block, behind an append onto that block. -/
theorem far_row {k : IntKind} {w w' : World} {B : Option Addr} {m g : Nat} {ls : List Int} (h : Row k w w.heap.size B m ls) (hf : ∀ ad : Addr, B = some ad → ad.block ≠ g) (hg : w.grownBy w' (some g)) : Row k w' w'.heap.size B m ls := by
  refine ⟨h.1, fun hn => ?_⟩
  obtain ⟨b, off, e, hb, hc⟩ := h.2 hn
  refine ⟨b, off, e, Nat.lt_of_lt_of_le hb hg.size, fun j hj => ?_⟩
  exact hg.cell (hc j hj) (by have := hf _ e; simpa using this)
/-- putList onto a row of one's own. -/
theorem pputlist_any (g n c : Nat) (zs : List Int) (B : Option Addr) (m d : Nat) (ls : List Int) (w : World) (hr : w.ownsRow g 5 1 (.slice (some ⟨g, 0, none⟩) n c) n (zs.map (Value.int .u8))) (hl : Row .u8 w w.heap.size B m ls) (hg : g < w.heap.size) (hf : ∀ ad : Addr, B = some ad → ad.block ≠ g) (hn : n ≤ 1000) (hm : m ≤ 255) :
    Calls Try.prog 47 #[.slice (some ⟨g, 0, none⟩) n c, .slice B m d] w fun e w' => ∃ C cc, e = .returned (.slice C (n + 1 + m) cc) ∧ w'.ownsRow g 5 1 (.slice C (n + 1 + m) cc) (n + 1 + m) ((zs ++ [(m : Int)] ++ ls).map (Value.int .u8)) ∧ Below g w w' := by
  have HL := Lib.hid hl
  have HF := Lib.hid hf
  have HO := Lib.hid (hr.alloc (.cells #[.int .u8 (m : Int)] 5))
  have hw1 : WholeV (w.alloc (.cells #[.int .u8 (m : Int)] 5)) w.heap.size 5 [.int .u8 (m : Int)] := heap_alloc_new w _
  have HW := Lib.hid hw1.row
  have HB : Hid (Below g w (w.alloc (.cells #[.int .u8 (m : Int)] 5))) := (Below.refl _ _).alloc (by omega) _
  have hbl : Below w.heap.size w (w.alloc (.cells #[.int .u8 (m : Int)] 5)) := (Below.refl _ _).alloc (Nat.le_refl _) _
  have HL1 := Lib.hid ((hl.below hbl).more hbl.size)
  have wm : IntKind.u8.wrap (m : Int) = m := IntWalk.u8_in _ (by omega)
  have hsz : g ≤ (w.alloc (.cells #[.int .u8 (m : Int)] 5)).heap.size := by simp; omega
  have HSZ := Lib.hid hsz
  clear hr hl hf hw1 hbl hsz
  go_enter Try.func47, Try.ntmps47
  go_wp2_with (first
    | (at_builtin
       refine wpList_append_row _ (o := ⟨some 10, _, _, _, _, _⟩) rfl (.tmp 5) (.tmp 9) 33 rfl g 5 (.int .u8 0) 1 Try.underlying33 info5 rfl (.slice (some ⟨g, 0, none⟩) n c) n _ rfl HO.out _ (some ⟨w.heap.size, 0, none⟩) 1 1 _ rfl HW.out (by simp [Value.oneCell']) (by omega) (by omega) HSZ.out ?_
       intro v1 w1 hown1 hg1 hat1
       obtain ⟨A1, c1, rfl⟩ := own_slice hown1
       have HB1 := Lib.hid (below_append HB.out HO.out hg1 HSZ.out)
       have HL2 := Lib.hid (far_row HL1.out HF.out hg1)
       have HO1 := Lib.hid hown1
       have HS1 : Hid (g ≤ w1.heap.size) := Nat.le_trans HSZ.out hg1.size
       clear hown1 hg1 hat1)
    | (at_builtin
       refine wpList_append_row _ (o := ⟨some 13, _, _, _, _, _⟩) rfl (.tmp 11) (.tmp 12) 33 rfl g 5 (.int .u8 0) 1 Try.underlying33 info5 rfl (.slice A1 (n + 1) c1) (n + 1) _ rfl HO1.out _ B m d _ rfl HL2.out.v (one_cells _ _) (by omega) (by omega) HS1.out ?_
       intro v2 w2 hown2 hg2 hat2
       obtain ⟨A2, c2, rfl⟩ := own_slice hown2
       have HB2 := Lib.hid (below_append HB1.out HO1.out hg2 HS1.out)
       have HO2 := Lib.hid hown2
       clear hown2 hg2 hat2))
  go_ret
  refine ⟨A2, c2, rfl, ?_, HB2.out⟩
  have e : (zs ++ [(m : Int)] ++ ls).map (Value.int .u8) = zs.map (Value.int .u8) ++ [.int .u8 (m : Int)] ++ ls.map (Value.int .u8) := by simp
  rw [e]
  exact HO2.out

theorem built_ints (k : IntKind) (X W : World) (zs : List Int) (T : TypeId) (h : Below (X.alloc (.cells (zs.map (Value.int k)).toArray T)).heap.size (X.alloc (.cells (zs.map (Value.int k)).toArray T)) W) : Row k W W.heap.size (some ⟨X.heap.size, 0, none⟩) zs.length zs := by
  have h1 := built_row X W (zs.map (Value.int k)) T h
  rw [List.length_map] at h1
  exact h1.ints

theorem flat_nil : flat ([] : List Int) = [] := rfl
theorem flat_all (ws : List Int) (m : Nat) (h : ws.length = m) : flat (ws.take m) = flat ws := by rw [List.take_of_length_le (by omega)]

set_option maxHeartbeats 1000000 in
theorem pput_any (A : Option Addr) (n c : Nat) (zs : List Int) (B : Option Addr) (m d : Nat) (ws : List Int) (w : World) (hr : Row .u8 w w.heap.size A n zs) (hw : Row .i64 w w.heap.size B m ws) (hx : Words ws) (hn : n ≤ 1000) (hm : m ≤ 1000) (hm0 : 0 < m) :
    Calls Try.prog 50 #[.slice A n c, .slice B m d] w fun e w' => ∃ g, e = .returned (.slice (some ⟨g, 0, none⟩) (n + 2 * m) (n + 2 * m)) ∧ Whole .u8 w' g 5 (zs ++ flat ws) ∧ w.heap.size ≤ g ∧ Below w.heap.size w w' := by
  have HR := Lib.hid hr
  have HW := Lib.hid hw
  have HX := Lib.hid hx
  have HN := Lib.hid hw.1
  clear hr hw hx
  go_enter Try.func50, Try.ntmps50
  go_wp2
  go_loopw [0, 6, 9] (fun b x i wr => ∃ (k : Nat) (C : Option Addr) (cc : Nat), k ≤ m ∧ i = .int .i64 (k : Int) ∧ b = .slice C (n + 2 * k) cc ∧ Hid (Row .u8 wr wr.heap.size C (n + 2 * k) (zs ++ flat (ws.take k))) ∧ Hid (k = 0 ∨ ∃ g, C = some ⟨g, 0, none⟩ ∧ cc = n + 2 * k ∧ Whole .u8 wr g 5 (zs ++ flat (ws.take k)) ∧ w.heap.size ≤ g) ∧ Hid (Below w.heap.size w wr)) (fun _ _ i _ => m - (intOf i).toNat)
  case atStart =>
    refine ⟨0, A, c, by omega, rfl, rfl, ?_, .inl rfl, Below.refl _ _⟩
    have h := HR.out
    have e : zs ++ flat (ws.take 0) = zs := by simp [flat]
    show Row .u8 w w.heap.size A n _
    rw [e]
    exact h
  case round =>
    obtain ⟨k, C, cc, hk, rfl, rfl, HK, HG, HB⟩ := hrel
    by_cases hlt : k < m
    · obtain ⟨b, off, rfl, hb, hcell⟩ := HW.out.2 (by omega)
      obtain ⟨z, hz⟩ : ∃ z, ws.getD k 0 = z := ⟨_, rfl⟩
      have hcl : wr.cell? ⟨b, off + k, none⟩ = some (.int .i64 z) := by rw [HB.out.cell hb, hcell k hlt, hz]
      have hbd := HX.out.at_ k
      change 0 ≤ ws.getD k 0 ∧ ws.getD k 0 ≤ 65535 at hbd
      rw [hz] at hbd
      have z0 := hbd.1
      have z1 := hbd.2
      have wz : IntKind.u16.wrap z = z := IntWalk.u16_in _ (by omega)
      have HT : Hid (zs ++ flat (ws.take k) ++ [z / 256, z % 256] = zs ++ flat (ws.take (k + 1))) := by
        rw [flat_take ws k (by rw [HN.out]; exact hlt), hz, List.append_assoc]; rfl
      have hi1 : (k : Int) < (m : Int) := by omega
      clear hcell hz hbd
      go_wp2_with (go_at_call 86; (with_reducible refine (wput_any C (n + 2 * k) cc _ z _ HK.out z0 z1 (by omega)).mono ?_); rintro e w2 ⟨rfl, ho2, hb2⟩; have HO2 := Lib.hid ho2; have HB2 := Lib.hid hb2; clear ho2 hb2)
      go_roundw
      case rel =>
        have ho := HO2.out
        rw [HT.out] at ho
        have hrow := ho.row
        have hlen : (zs ++ flat (ws.take (k + 1))).length = n + 2 * (k + 1) := by
          rw [List.length_append, flat_length, HR.out.1, List.length_take, HN.out]; omega
        rw [hlen] at hrow
        exact ⟨k + 1, some ⟨wr.heap.size, 0, none⟩, n + 2 * k + 2, by omega, by go_num, rfl, hrow, .inr ⟨_, rfl, by omega, ho, HB.out.size⟩, HB.out.trans (HB2.out.mono HB.out.size)⟩
      case measure => simp [intOf]; omega
    · obtain rfl : m = k := by omega
      go_wp2
      go_ret
      rcases HG.out with h0 | ⟨g, rfl, rfl, hwh, hge⟩
      · omega
      · rw [flat_all ws m HN.out] at hwh
        exact ⟨g, rfl, hwh, hge, HB.out⟩

theorem ppacked_any (B : Option Addr) (m d : Nat) (ws : List Int) (w : World) (hw : Row .u16 w w.heap.size B m ws) (hx : Words ws) (hm : m ≤ 1000) :
    Calls Try.prog 49 #[.slice B m d] w fun e w' => ∃ C cc, e = .returned (.slice C (2 * m) cc) ∧ Row .u8 w' w'.heap.size C (2 * m) (flat ws) ∧ (∀ ad : Addr, C = some ad → w.heap.size ≤ ad.block) ∧ Below w.heap.size w w' := by
  have HW := Lib.hid hw
  have HX := Lib.hid hx
  have HN := Lib.hid hw.1
  clear hw hx
  go_enter Try.func49, Try.ntmps49
  go_wp2
  go_loopw [3, 5, 8] (fun b x i wr => ∃ (k : Nat) (C : Option Addr) (cc : Nat), k ≤ m ∧ i = .int .i64 (k : Int) ∧ b = .slice C (2 * k) cc ∧ Hid (Row .u8 wr wr.heap.size C (2 * k) (flat (ws.take k))) ∧ Hid (∀ ad : Addr, C = some ad → w.heap.size ≤ ad.block) ∧ Hid (Below w.heap.size w wr)) (fun _ _ i _ => m - (intOf i).toNat)
  case atStart => exact ⟨0, none, 0, by omega, rfl, rfl, Row.nil _ _ _ _, (fun _ h => by cases h), Below.refl _ _⟩
  case round =>
    obtain ⟨k, C, cc, hk, rfl, rfl, HK, HF, HB⟩ := hrel
    by_cases hlt : k < m
    · obtain ⟨b, off, rfl, hb, hcell⟩ := HW.out.2 (by omega)
      obtain ⟨z, hz⟩ : ∃ z, ws.getD k 0 = z := ⟨_, rfl⟩
      have hcl : wr.cell? ⟨b, off + k, none⟩ = some (.int .u16 z) := by rw [HB.out.cell hb, hcell k hlt, hz]
      have hbd := HX.out.at_ k
      change 0 ≤ ws.getD k 0 ∧ ws.getD k 0 ≤ 65535 at hbd
      rw [hz] at hbd
      have z0 := hbd.1
      have z1 := hbd.2
      have HT : Hid (flat (ws.take k) ++ [z / 256, z % 256] = flat (ws.take (k + 1))) := by
        rw [flat_take ws k (by rw [HN.out]; exact hlt), hz]; rfl
      have hi1 : (k : Int) < (m : Int) := by omega
      clear hcell hz hbd
      go_wp2_with (go_at_call 86; (with_reducible refine (wput_any C (2 * k) cc _ z _ HK.out z0 z1 (by omega)).mono ?_); rintro e w2 ⟨rfl, ho2, hb2⟩; have HO2 := Lib.hid ho2; have HB2 := Lib.hid hb2; clear ho2 hb2)
      go_roundw
      case rel =>
        have ho := HO2.out
        rw [HT.out] at ho
        have hrow := ho.row
        have hlen : (flat (ws.take (k + 1))).length = 2 * (k + 1) := by
          rw [flat_length, List.length_take, HN.out]; omega
        rw [hlen] at hrow
        exact ⟨k + 1, some ⟨wr.heap.size, 0, none⟩, 2 * k + 2, by omega, by go_num, rfl, hrow, (fun ad h => by injection h with h; subst h; exact HB.out.size), HB.out.trans (HB2.out.mono HB.out.size)⟩
      case measure => simp [intOf]; omega
    · obtain rfl : m = k := by omega
      go_wp2
      go_ret
      have h := HK.out
      rw [flat_all ws m HN.out] at h
      exact ⟨C, cc, rfl, h, HF.out, HB.out⟩

end Go.Proofs.Ytcmnhpogepahgaa
