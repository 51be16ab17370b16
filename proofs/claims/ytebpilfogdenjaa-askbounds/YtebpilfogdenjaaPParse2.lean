/- Package ask: what fields and Parse answer, of any bytes. -/
import Derived.Test.YtebpilfogdenjaaPSpec
import Derived.Test.YtebpilfogdenjaaPFields
import Derived.Test.YtebpilfogdenjaaPFieldsL
import Derived.Test.YtebpilfogdenjaaPParse
namespace Go.Proofs.Ytebpilfogdenjaa
open Go.ChangeShapes Go.WideShapes Go.ChangeAt Go.RowKit
set_option linter.unusedVariables false
set_option linter.unusedSimpArgs false

/-- What fields answers. -/
def FieldsTo (o : Option Req) (w : World) (e : Ending) (w' : World) : Prop := match o with
  | none => FieldsNo w e w'
  | some r => FieldsYes r.fn r.at_ r.n r.v r.an r.orr r.bs.length r.ws.length r.ra r.rn r.co r.ob r.bs r.ws w e w'
theorem fno {w : World} {e : Ending} {w' : World} {fn at_ nn v an orr : Int} {bl wl : Nat} {ra rn co ob : Int} {BA WA : Option Addr} {bc wc : Nat}
    (h : e = .returned (.tuple #[.agg #[.int .i64 fn, .int .i64 at_, .int .i64 nn, .int .u16 v, .int .u16 an, .int .u16 orr, .slice BA bl bc, .slice WA wl wc, .int .i64 ra, .int .i64 rn, .int .i64 co, .int .i64 ob], .bool false]) ∧ Below w.heap.size w w') : FieldsTo none w e w' := ⟨_, _, _, _, _, _, _, _, _, _, _, _, _, _, _, _, h.1, h.2⟩
theorem fyes {w : World} {e : Ending} {w' : World} {fn at_ nn v an orr ra rn co ob : Int}
    (h : e = .returned (.tuple #[.agg #[.int .i64 fn, .int .i64 at_, .int .i64 nn, .int .u16 v, .int .u16 an, .int .u16 orr, .slice none 0 0, .slice none 0 0, .int .i64 ra, .int .i64 rn, .int .i64 co, .int .i64 ob], .bool true]) ∧ Below w.heap.size w w') : FieldsTo (some ⟨fn, at_, nn, v, an, orr, [], [], ra, rn, co, ob⟩) w e w' := ⟨_, _, _, _, h.1, own_none _ _ _, own_none _ _ _, h.2⟩

theorem pfields_any (A : Option Addr) (n c : Nat) (zs : List Int) (w : World) (hr : Row .u8 w w.heap.size A n zs) (hx : Bytes8 zs) (hn : n ≤ 1000) (h1 : 1 ≤ n) (hc : n ≤ c) (hk : kKnown (zs.getD 0 0) = true) :
    Calls Try.prog 23 #[.slice A n c] w (FieldsTo (cand zs n) w) := by
  rcases kinds (zs.getD 0 0) with h0 | h0 | h0 | h0 | h0 | h0 | h0 | h0 | h0 | h0 | h0 | h0
  · rw [cand_read h0 (by omega)]
    by_cases hl : n = 5
    · rw [if_pos hl]; exact (pfields_yes_1 A n c zs w hr hx hn h1 _ _ h0 hl rfl rfl).mono fun _ _ h => fyes h
    · rw [if_neg hl]; exact (pfields_len_1 A n c zs w hr hx hn h1 h0 hl).mono fun _ _ h => fno h
  · rw [cand_read h0 (by omega)]
    by_cases hl : n = 5
    · rw [if_pos hl]; exact (pfields_yes_2 A n c zs w hr hx hn h1 _ _ h0 hl rfl rfl).mono fun _ _ h => fyes h
    · rw [if_neg hl]; exact (pfields_len_2 A n c zs w hr hx hn h1 h0 hl).mono fun _ _ h => fno h
  · rw [cand_read h0 (by omega)]
    by_cases hl : n = 5
    · rw [if_pos hl]; exact (pfields_yes_3 A n c zs w hr hx hn h1 _ _ h0 hl rfl rfl).mono fun _ _ h => fyes h
    · rw [if_neg hl]; exact (pfields_len_3 A n c zs w hr hx hn h1 h0 hl).mono fun _ _ h => fno h
  · rw [cand_read h0 (by omega)]
    by_cases hl : n = 5
    · rw [if_pos hl]; exact (pfields_yes_4 A n c zs w hr hx hn h1 _ _ h0 hl rfl rfl).mono fun _ _ h => fyes h
    · rw [if_neg hl]; exact (pfields_len_4 A n c zs w hr hx hn h1 h0 hl).mono fun _ _ h => fno h
  · rw [cand_5 h0]
    by_cases hl : n = 5
    · by_cases h3 : gotW zs n 3 = 0
      · rw [if_pos ⟨hl, h3⟩]; exact (pfields_nought_5 A n c zs w hr hx hn h1 _ _ h0 hl rfl rfl h3).mono fun _ _ h => fyes h
      · rw [if_neg (fun h => h3 h.2)]
        by_cases h4 : gotW zs n 3 = 65280
        · rw [if_pos ⟨hl, h4⟩]; exact (pfields_one_5 A n c zs w hr hx hn h1 _ _ h0 hl rfl rfl h4).mono fun _ _ h => fyes h
        · rw [if_neg (fun h => h4 h.2)]; exact (pfields_other_5 A n c zs w hr hx hn h1 _ _ h0 hl rfl rfl h3 h4).mono fun _ _ h => fno h
    · rw [if_neg (fun h => hl h.1), if_neg (fun h => hl h.1)]; exact (pfields_len_5 A n c zs w hr hx hn h1 h0 hl).mono fun _ _ h => fno h
  · rw [cand_6 h0]
    by_cases hl : n = 5
    · rw [if_pos hl]; exact (pfields_yes_6 A n c zs w hr hx hn h1 _ _ h0 hl rfl rfl).mono fun _ _ h => fyes h
    · rw [if_neg hl]; exact (pfields_len_6 A n c zs w hr hx hn h1 h0 hl).mono fun _ _ h => fno h
  · rw [cand_15 h0]
    by_cases h5 : 5 < n
    · by_cases hl : (n : Int) = 6 + zs.getD 5 0
      · have g3 := gotW_bounds hx n 3
        by_cases hb : nbI (gotW zs n 3) = zs.getD 5 0
        · rw [if_pos ⟨h5, hl, hb⟩]
          have e : gotW zs n 3 = ((gotW zs n 3).toNat : Int) := by omega
          have hu : zs.getD 5 0 = ((nb (gotW zs n 3).toNat : Nat) : Int) := by rw [← hb, ← nbI_nat, ← e]
          have fin : ∀ e w', (∃ G g, e = .returned (.tuple #[.agg #[.int .i64 15, .int .i64 (gotW zs n 1), .int .i64 (gotW zs n 3), .int .u16 0, .int .u16 0, .int .u16 0, .slice G (gotW zs n 3).toNat g, .slice none 0 0, .int .i64 0, .int .i64 0, .int .i64 0, .int .i64 0], .bool true]) ∧ w'.ownsRow w.heap.size 4 1 (.slice G (gotW zs n 3).toNat g) (gotW zs n 3).toNat ((unb (zs.drop 6) (gotW zs n 3).toNat).map Value.bool) ∧ Below w.heap.size w w') → FieldsTo (some ⟨15, gotW zs n 1, gotW zs n 3, 0, 0, 0, unb (zs.drop 6) (gotW zs n 3).toNat, [], 0, 0, 0, 0⟩) w e w' := by
            rintro e w' ⟨G, g, he, ho, hb⟩
            refine ⟨G, none, g, 0, ?_, ?_, own_none _ _ _, hb⟩
            · rw [unb_length]; exact he
            · rw [unb_length]; exact ho
          by_cases hcap : c = 6
          · exact (pfields_yes_15b A n c zs w hr hx hn h1 _ _ _ h0 h5 hc hcap rfl hl rfl rfl _ e hu).mono fin
          · exact (pfields_yes_15a A n c zs w hr hx hn h1 _ _ _ h0 h5 hc hcap rfl hl rfl rfl _ e hu).mono fin
        · rw [if_neg (fun h => hb h.2.2)]
          by_cases hcap : c = 6
          · exact (pfields_bad_15b A n c zs w hr hx hn h1 _ _ _ h0 h5 hc hcap rfl hl rfl rfl hb).mono fun _ _ h => fno h
          · exact (pfields_bad_15a A n c zs w hr hx hn h1 _ _ _ h0 h5 hc hcap rfl hl rfl rfl hb).mono fun _ _ h => fno h
      · rw [if_neg (fun h => hl h.2.1)]; exact (pfields_len_15 A n c zs w hr hx hn h1 _ h0 h5 rfl hl).mono fun _ _ h => fno h
    · rw [if_neg (fun h => h5 h.1)]; exact (pfields_few_15 A n c zs w hr hx hn h1 h0 (by omega)).mono fun _ _ h => fno h
  · rw [cand_16 h0]
    by_cases h5 : 5 < n
    · by_cases hl : (n : Int) = 6 + zs.getD 5 0
      · have g3 := gotW_bounds hx n 3
        by_cases hb : zs.getD 5 0 = gotW zs n 3 * 2
        · rw [if_pos ⟨h5, hl, hb⟩]
          have e : gotW zs n 3 = ((gotW zs n 3).toNat : Int) := by omega
          have hu : zs.getD 5 0 = 2 * (((gotW zs n 3).toNat : Nat) : Int) := by omega
          have fin : ∀ e w', (∃ G g, e = .returned (.tuple #[.agg #[.int .i64 16, .int .i64 (gotW zs n 1), .int .i64 (gotW zs n 3), .int .u16 0, .int .u16 0, .int .u16 0, .slice none 0 0, .slice G (gotW zs n 3).toNat g, .int .i64 0, .int .i64 0, .int .i64 0, .int .i64 0], .bool true]) ∧ w'.ownsRow w.heap.size 26 1 (.slice G (gotW zs n 3).toNat g) (gotW zs n 3).toNat ((wordsAt (zs.drop 6) 0 (gotW zs n 3).toNat).map (Value.int .u16)) ∧ Below w.heap.size w w') → FieldsTo (some ⟨16, gotW zs n 1, gotW zs n 3, 0, 0, 0, [], wordsAt zs 6 (gotW zs n 3).toNat, 0, 0, 0, 0⟩) w e w' := by
            rintro e w' ⟨G, g, he, ho, hb⟩
            rw [wordsAt_drop] at ho
            refine ⟨none, G, 0, g, ?_, own_none _ _ _, ?_, hb⟩
            · rw [wordsAt_length]; exact he
            · rw [wordsAt_length]; exact ho
          by_cases hcap : c = 6
          · exact (pfields_yes_16b A n c zs w hr hx hn h1 _ _ _ h0 h5 hc hcap rfl hl rfl rfl _ e hu).mono fin
          · exact (pfields_yes_16a A n c zs w hr hx hn h1 _ _ _ h0 h5 hc hcap rfl hl rfl rfl _ e hu).mono fin
        · rw [if_neg (fun h => hb h.2.2)]
          by_cases hcap : c = 6
          · exact (pfields_bad_16b A n c zs w hr hx hn h1 _ _ _ h0 h5 hc hcap rfl hl rfl rfl hb).mono fun _ _ h => fno h
          · exact (pfields_bad_16a A n c zs w hr hx hn h1 _ _ _ h0 h5 hc hcap rfl hl rfl rfl hb).mono fun _ _ h => fno h
      · rw [if_neg (fun h => hl h.2.1)]; exact (pfields_len_16 A n c zs w hr hx hn h1 _ h0 h5 rfl hl).mono fun _ _ h => fno h
    · rw [if_neg (fun h => h5 h.1)]; exact (pfields_few_16 A n c zs w hr hx hn h1 h0 (by omega)).mono fun _ _ h => fno h
  · rw [cand_22 h0]
    by_cases hl : n = 7
    · rw [if_pos hl]; exact (pfields_yes_22 A n c zs w hr hx hn h1 _ _ _ h0 hl rfl rfl rfl).mono fun _ _ h => fyes h
    · rw [if_neg hl]; exact (pfields_len_22 A n c zs w hr hx hn h1 h0 hl).mono fun _ _ h => fno h
  · rw [cand_23 h0]
    by_cases h5 : 9 < n
    · by_cases hl : (n : Int) = 10 + zs.getD 9 0
      · have g7 := gotW_bounds hx n 7
        by_cases hb : zs.getD 9 0 = gotW zs n 7 * 2
        · rw [if_pos ⟨h5, hl, hb⟩]
          have e : gotW zs n 7 = ((gotW zs n 7).toNat : Int) := by omega
          have hu : zs.getD 9 0 = 2 * (((gotW zs n 7).toNat : Nat) : Int) := by omega
          have fin : ∀ e w', (∃ G g, e = .returned (.tuple #[.agg #[.int .i64 23, .int .i64 (gotW zs n 5), .int .i64 (gotW zs n 7), .int .u16 0, .int .u16 0, .int .u16 0, .slice none 0 0, .slice G (gotW zs n 7).toNat g, .int .i64 (gotW zs n 1), .int .i64 (gotW zs n 3), .int .i64 0, .int .i64 0], .bool true]) ∧ w'.ownsRow w.heap.size 26 1 (.slice G (gotW zs n 7).toNat g) (gotW zs n 7).toNat ((wordsAt (zs.drop 10) 0 (gotW zs n 7).toNat).map (Value.int .u16)) ∧ Below w.heap.size w w') → FieldsTo (some ⟨23, gotW zs n 5, gotW zs n 7, 0, 0, 0, [], wordsAt zs 10 (gotW zs n 7).toNat, gotW zs n 1, gotW zs n 3, 0, 0⟩) w e w' := by
            rintro e w' ⟨G, g, he, ho, hb⟩
            rw [wordsAt_drop] at ho
            refine ⟨none, G, 0, g, ?_, own_none _ _ _, ?_, hb⟩
            · rw [wordsAt_length]; exact he
            · rw [wordsAt_length]; exact ho
          by_cases hcap : c = 10
          · exact (pfields_yes_23b A n c zs w hr hx hn h1 _ _ _ _ _ h0 h5 hc hcap rfl hl rfl rfl rfl rfl _ e hu).mono fin
          · exact (pfields_yes_23a A n c zs w hr hx hn h1 _ _ _ _ _ h0 h5 hc hcap rfl hl rfl rfl rfl rfl _ e hu).mono fin
        · rw [if_neg (fun h => hb h.2.2)]
          by_cases hcap : c = 10
          · exact (pfields_bad_23b A n c zs w hr hx hn h1 _ _ _ _ _ h0 h5 hc hcap rfl hl rfl rfl rfl rfl hb).mono fun _ _ h => fno h
          · exact (pfields_bad_23a A n c zs w hr hx hn h1 _ _ _ _ _ h0 h5 hc hcap rfl hl rfl rfl rfl rfl hb).mono fun _ _ h => fno h
      · rw [if_neg (fun h => hl h.2.1)]; exact (pfields_len_23 A n c zs w hr hx hn h1 _ h0 h5 rfl hl).mono fun _ _ h => fno h
    · rw [if_neg (fun h => h5 h.1)]; exact (pfields_few_23 A n c zs w hr hx hn h1 h0 (by omega)).mono fun _ _ h => fno h
  · rw [cand_43 h0]
    by_cases hl : n = 4
    · rw [if_pos hl]; exact (pfields_yes_43 A n c zs w hr hx hn h1 _ _ _ _ h0 hl rfl rfl rfl rfl).mono fun _ _ h => fyes h
    · rw [if_neg hl]; exact (pfields_len_43 A n c zs w hr hx hn h1 h0 hl).mono fun _ _ h => fno h
  · rw [h0.known] at hk; cases hk

/-- What Parse answers. -/
def ParsedTo (o : Req × Int) (w : World) (e : Ending) (w' : World) : Prop :=
  ∃ (BA WA : Option Addr) (bc wc : Nat), e = .returned (.tuple #[.agg #[.int .i64 o.1.fn, .int .i64 o.1.at_, .int .i64 o.1.n, .int .u16 o.1.v, .int .u16 o.1.an, .int .u16 o.1.orr, .slice BA o.1.bs.length bc, .slice WA o.1.ws.length wc, .int .i64 o.1.ra, .int .i64 o.1.rn, .int .i64 o.1.co, .int .i64 o.1.ob], .int .i64 o.2]) ∧
    w'.ownsRow w.heap.size 4 1 (.slice BA o.1.bs.length bc) o.1.bs.length (o.1.bs.map Value.bool) ∧ w'.ownsRow w.heap.size 26 1 (.slice WA o.1.ws.length wc) o.1.ws.length (o.1.ws.map (Value.int .u16)) ∧ Below w.heap.size w w'
theorem ParsedNo.to {f x : Int} {w : World} {e : Ending} {w' : World} (h : ParsedNo f x w e w') : ParsedTo (⟨f, 0, 0, 0, 0, 0, [], [], 0, 0, 0, 0⟩, x) w e w' := ⟨none, none, 0, 0, h.1, own_none _ _ _, own_none _ _ _, h.2⟩

theorem pparse_any (A : Option Addr) (n c : Nat) (zs : List Int) (w : World) (hr : Row .u8 w w.heap.size A n zs) (hx : Bytes8 zs) (hn : n ≤ 1000) (hc : n ≤ c) :
    Calls Try.prog 11 #[.slice A n c] w (ParsedTo (parseOf zs n) w) := by
  unfold parseOf
  by_cases hedge : n = 0 ∨ 253 < n
  · rw [if_pos hedge]; exact (pparse_edge A n c w hedge).mono fun _ _ h => h.to
  rw [if_neg hedge]
  have h1 : 1 ≤ n := by omega
  have h253 : n ≤ 253 := by omega
  by_cases hk : kKnown (zs.getD 0 0) = false
  · rw [if_pos hk]
    exact (pparse_refused A n c zs _ w hr hx h253 h1 rfl 1 (by omega) (fun W hW => prefusal_unknown A n c zs W _ hW hx (by omega) h1 rfl hk)).mono fun _ _ h => h.to
  rw [if_neg hk]
  have hk' : kKnown (zs.getD 0 0) = true := by simpa using hk
  by_cases ha : zs.getD 0 0 = 43 ∧ n = 1
  · rw [if_pos ha]
    exact (pparse_refused A n c zs _ w hr hx h253 h1 rfl 3 (by omega) (fun W hW => prefusal_alone A n c zs W hW ha.2 ha.1)).mono fun _ _ h => h.to
  rw [if_neg ha]
  by_cases hb : zs.getD 0 0 = 43 ∧ zs.getD 1 0 ≠ 14
  · rw [if_pos hb]
    exact (pparse_refused A n c zs _ w hr hx h253 h1 rfl 1 (by omega) (fun W hW => prefusal_43 A n c zs W _ hW (by omega) (by have := hb.1; omega) hb.1 rfl 1 (by rw [if_neg hb.2]))).mono fun _ _ h => h.to
  rw [if_neg hb]
  have href : ∀ W, Row .u8 W W.heap.size A n zs → Calls Try.prog 22 #[.slice A n c] W fun e w' => e = .returned (.int .i64 0) ∧ W = w' := by
    intro W hW
    by_cases h43 : zs.getD 0 0 = 43
    · exact prefusal_43 A n c zs W _ hW (by omega) (by have := fun h => ha ⟨h43, h⟩; omega) h43 rfl 0 (by rw [if_pos (Classical.byContradiction fun h => hb ⟨h43, h⟩)])
    · exact prefusal_other A n c zs W _ hW hx (by omega) h1 rfl hk' h43
  have hf : ∀ W, Row .u8 W W.heap.size A n zs → Calls Try.prog 23 #[.slice A n c] W (FieldsTo (cand zs n) W) := fun W hW => pfields_any A n c zs W hW hx hn h1 hc hk'
  rcases hcd : cand zs n with _ | r
  · rw [hcd] at hf
    exact (pparse_none A n c zs _ w hr hx h253 h1 rfl href (fun W _ hW => hf W hW)).mono fun _ _ h => h.to
  · rw [hcd] at hf
    obtain ⟨hwd, hws⟩ := wide_cand hx hcd
    by_cases hrt : r.right
    · show Calls Try.prog _ _ _ (ParsedTo (if r.right then (r, 0) else _) w)
      rw [if_pos hrt]
      exact (pparse_ok A n c zs _ w hr hx h253 h1 rfl href _ _ _ _ _ _ _ _ _ _ _ _ _ _ hwd hrt (fun W _ hW => hf W hW)).mono fun _ _ h => h
    · show Calls Try.prog _ _ _ (ParsedTo (if r.right then (r, 0) else _) w)
      rw [if_neg hrt]
      exact (pparse_wrong A n c zs _ w hr hx h253 h1 rfl href _ _ _ _ _ _ _ _ _ _ _ _ _ _ hwd hrt (fun W _ hW => hf W hW)).mono fun _ _ h => h.to

end Go.Proofs.Ytebpilfogdenjaa
