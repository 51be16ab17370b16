/- The document's Parse: what read and Parse answer, of any bytes. -/
import Derived.Test.YtebpilfogdenjaaPParse2
import Derived.Test.YtebpilfogdenjaaRParse
import Derived.Test.YtebpilfogdenjaaAskRead
import Derived.Test.YtebpilfogdenjaaAskRead43
import Derived.Test.YtebpilfogdenjaaAskRead5
import Derived.Test.YtebpilfogdenjaaAskRead16
import Derived.Test.YtebpilfogdenjaaAskReadB
import Derived.Test.YtebpilfogdenjaaAskReadW
import Derived.Test.YtebpilfogdenjaaAskRead15
namespace Go.Proofs.Ytebpilfogdenjaa
open Go.ChangeShapes Go.WideShapes Go.ChangeAt Go.RowKit
set_option linter.unusedVariables false
set_option linter.unusedSimpArgs false

/-- What read answers. -/
def ReadTo (o : Option Req) (w : World) (e : Ending) (w' : World) : Prop := match o with
  | none => FieldsNo w e w'
  | some r => if r.right then FieldsTo (some r) w e w' else FieldsNo w e w'
theorem rno {w : World} {e : Ending} {w' : World} {fn at_ nn v an orr : Int} {bl wl : Nat} {ra rn co ob : Int} {BA WA : Option Addr} {bc wc : Nat} {o : Option Req} (ho : o = none ∨ ∃ r, o = some r ∧ ¬ r.right)
    (h : e = .returned (.tuple #[.agg #[.int .i64 fn, .int .i64 at_, .int .i64 nn, .int .u16 v, .int .u16 an, .int .u16 orr, .slice BA bl bc, .slice WA wl wc, .int .i64 ra, .int .i64 rn, .int .i64 co, .int .i64 ob], .bool false]) ∧ Below w.heap.size w w') : ReadTo o w e w' := by
  have hn : FieldsNo w e w' := ⟨_, _, _, _, _, _, _, _, _, _, _, _, _, _, _, _, h.1, h.2⟩
  rcases ho with rfl | ⟨r, rfl, hr⟩
  · exact hn
  · show (if r.right then _ else _)
    rw [if_neg hr]
    exact hn
theorem ryes {r : Req} {w : World} {e : Ending} {w' : World} (hr : r.right) (h : FieldsTo (some r) w e w') : ReadTo (some r) w e w' := by
  show (if r.right then _ else _)
  rw [if_pos hr]
  exact h

theorem rread_any (A : Option Addr) (n c : Nat) (zs : List Int) (w : World) (hr : Row .u8 w w.heap.size A n zs) (hx : Bytes8 zs) (hn : n ≤ 1000) (h1 : 1 ≤ n) (hc : n ≤ c) (hk : kKnown (zs.getD 0 0) = true) :
    Calls Try.prog 25 #[.slice A n c] w (ReadTo (cand zs n) w) := by
  have g3 := gotW_bounds hx n 3
  have g7 := gotW_bounds hx n 7
  have b5 : 0 ≤ zs.getD 5 0 ∧ zs.getD 5 0 ≤ 255 := hx.at_ 5
  rcases kinds (zs.getD 0 0) with h0 | h0 | h0 | h0 | h0 | h0 | h0 | h0 | h0 | h0 | h0 | h0
  · rw [cand_read h0 (by omega)]
    by_cases hl : n = 5
    · rw [if_pos hl]
      by_cases hrt : Req.right ⟨1, gotW zs n 1, gotW zs n 3, 0, 0, 0, [], [], 0, 0, 0, 0⟩
      · exact (rread_1_is A n c zs _ _ w hr hx hn h1 h0 rfl rfl hl true (decide_eq_true hrt)).mono fun _ _ h => ryes hrt (fyes h)
      · exact (rread_1_is A n c zs _ _ w hr hx hn h1 h0 rfl rfl hl false (decide_eq_false hrt)).mono fun _ _ h => rno (.inr ⟨_, rfl, hrt⟩) h
    · rw [if_neg hl]; exact (rread_1_len A n c zs _ _ w hr hx hn h1 h0 rfl rfl hl).mono fun _ _ h => rno (.inl rfl) h
  · rw [cand_read h0 (by omega)]
    by_cases hl : n = 5
    · rw [if_pos hl]
      by_cases hrt : Req.right ⟨2, gotW zs n 1, gotW zs n 3, 0, 0, 0, [], [], 0, 0, 0, 0⟩
      · exact (rread_2_is A n c zs _ _ w hr hx hn h1 h0 rfl rfl hl true (decide_eq_true hrt)).mono fun _ _ h => ryes hrt (fyes h)
      · exact (rread_2_is A n c zs _ _ w hr hx hn h1 h0 rfl rfl hl false (decide_eq_false hrt)).mono fun _ _ h => rno (.inr ⟨_, rfl, hrt⟩) h
    · rw [if_neg hl]; exact (rread_2_len A n c zs _ _ w hr hx hn h1 h0 rfl rfl hl).mono fun _ _ h => rno (.inl rfl) h
  · rw [cand_read h0 (by omega)]
    by_cases hl : n = 5
    · rw [if_pos hl]
      by_cases hrt : Req.right ⟨3, gotW zs n 1, gotW zs n 3, 0, 0, 0, [], [], 0, 0, 0, 0⟩
      · exact (rread_3_is A n c zs _ _ w hr hx hn h1 h0 rfl rfl hl true (decide_eq_true hrt)).mono fun _ _ h => ryes hrt (fyes h)
      · exact (rread_3_is A n c zs _ _ w hr hx hn h1 h0 rfl rfl hl false (decide_eq_false hrt)).mono fun _ _ h => rno (.inr ⟨_, rfl, hrt⟩) h
    · rw [if_neg hl]; exact (rread_3_len A n c zs _ _ w hr hx hn h1 h0 rfl rfl hl).mono fun _ _ h => rno (.inl rfl) h
  · rw [cand_read h0 (by omega)]
    by_cases hl : n = 5
    · rw [if_pos hl]
      by_cases hrt : Req.right ⟨4, gotW zs n 1, gotW zs n 3, 0, 0, 0, [], [], 0, 0, 0, 0⟩
      · exact (rread_4_is A n c zs _ _ w hr hx hn h1 h0 rfl rfl hl true (decide_eq_true hrt)).mono fun _ _ h => ryes hrt (fyes h)
      · exact (rread_4_is A n c zs _ _ w hr hx hn h1 h0 rfl rfl hl false (decide_eq_false hrt)).mono fun _ _ h => rno (.inr ⟨_, rfl, hrt⟩) h
    · rw [if_neg hl]; exact (rread_4_len A n c zs _ _ w hr hx hn h1 h0 rfl rfl hl).mono fun _ _ h => rno (.inl rfl) h
  · have g1 := gotW_bounds hx n 1
    have hrt : ∀ v : Int, 0 ≤ v → v ≤ 1 → Req.right ⟨5, gotW zs n 1, 0, v, 0, 0, [], [], 0, 0, 0, 0⟩ := by
      intro v v0 v1
      refine ⟨rfl, ?_, ⟨g1.1, g1.2⟩, ⟨by show (0 : Int) ≤ 0; omega, by show (0 : Int) ≤ 65535; omega⟩, ?_⟩
      · unfold plainP; simp
      · unfold fitsP; simp; omega
    rw [cand_5 h0]
    by_cases hl : n = 5
    · by_cases h3 : gotW zs n 3 = 0
      · rw [if_pos ⟨hl, h3⟩]; exact (rread_5_nought A n c zs _ _ w hr hx hn h1 h0 rfl rfl hl h3).mono fun _ _ h => ryes (hrt 0 (by omega) (by omega)) (fyes h)
      · rw [if_neg (fun h => h3 h.2)]
        by_cases h4 : gotW zs n 3 = 65280
        · rw [if_pos ⟨hl, h4⟩]; exact (rread_5_one A n c zs _ _ w hr hx hn h1 h0 rfl rfl hl h4).mono fun _ _ h => ryes (hrt 1 (by omega) (by omega)) (fyes h)
        · rw [if_neg (fun h => h4 h.2)]; exact (rread_5_other A n c zs _ _ w hr hx hn h1 h0 rfl rfl hl h3 h4).mono fun _ _ h => rno (.inl rfl) h
    · rw [if_neg (fun h => hl h.1), if_neg (fun h => hl h.1)]
      by_cases h4 : gotW zs n 3 = 65280
      · exact (rread_5_lena A n c zs _ _ w hr hx hn h1 h0 rfl rfl hl h4).mono fun _ _ h => rno (.inl rfl) h
      · exact (rread_5_lenb A n c zs _ _ w hr hx hn h1 h0 rfl rfl hl h4).mono fun _ _ h => rno (.inl rfl) h
  · rw [cand_6 h0]
    by_cases hl : n = 5
    · rw [if_pos hl]
      by_cases hrt : Req.right ⟨6, gotW zs n 1, 0, gotW zs n 3, 0, 0, [], [], 0, 0, 0, 0⟩
      · exact (rread_6_is A n c zs _ _ w hr hx hn h1 h0 rfl rfl hl true (decide_eq_true hrt)).mono fun _ _ h => ryes hrt (fyes h)
      · exact (rread_6_is A n c zs _ _ w hr hx hn h1 h0 rfl rfl hl false (decide_eq_false hrt)).mono fun _ _ h => rno (.inr ⟨_, rfl, hrt⟩) h
    · rw [if_neg hl]; exact (rread_6_len A n c zs _ _ w hr hx hn h1 h0 rfl rfl hl).mono fun _ _ h => rno (.inl rfl) h
  · rw [cand_15 h0]
    by_cases h5 : 5 < n
    · obtain ⟨t, ht⟩ : ∃ t, n = 6 + t := ⟨n - 6, by omega⟩
      have e : gotW zs n 3 = ((gotW zs n 3).toNat : Int) := by omega
      have hnk : nbI (gotW zs n 3) = ((nb (gotW zs n 3).toNat : Nat) : Int) := by rw [← nbI_nat, ← e]
      by_cases hu : nbI (gotW zs n 3) = (t : Int)
      · have hkn : (t : Int) = ((nb (gotW zs n 3).toNat : Nat) : Int) := by rw [← hnk, hu]
        by_cases hb : zs.getD 5 0 = ((nb (gotW zs n 3).toNat : Nat) : Int)
        · rw [if_pos ⟨h5, by omega, by omega⟩]
          have fin : ∀ e w', (∃ G g, e = .returned (.tuple #[.agg #[.int .i64 15, .int .i64 (gotW zs n 1), .int .i64 (gotW zs n 3), .int .u16 0, .int .u16 0, .int .u16 0, .slice G (gotW zs n 3).toNat g, .slice none 0 0, .int .i64 0, .int .i64 0, .int .i64 0, .int .i64 0], .bool true]) ∧ w'.ownsRow w.heap.size 4 1 (.slice G (gotW zs n 3).toNat g) (gotW zs n 3).toNat ((unb (zs.drop 6) (gotW zs n 3).toNat).map Value.bool) ∧ Below w.heap.size w w') → FieldsTo (some ⟨15, gotW zs n 1, gotW zs n 3, 0, 0, 0, unb (zs.drop 6) (gotW zs n 3).toNat, [], 0, 0, 0, 0⟩) w e w' := by
            rintro e w' ⟨G, g, he, ho, hb⟩
            refine ⟨G, none, g, 0, ?_, ?_, own_none _ _ _, hb⟩
            · rw [unb_length]; exact he
            · rw [unb_length]; exact ho
          by_cases hrt : Req.right ⟨15, gotW zs n 1, gotW zs n 3, 0, 0, 0, unb (zs.drop 6) (gotW zs n 3).toNat, [], 0, 0, 0, 0⟩
          · have hrt' : rightP 15 (gotW zs n 1) (gotW zs n 3) 0 0 0 (gotW zs n 3).toNat 0 0 0 0 0 := by
              have h := hrt
              unfold Req.right at h
              rw [unb_length] at h
              exact h
            by_cases hcap : c = 6
            · exact (rread_15_isb A n c zs w hr hx hn h1 _ _ _ t h0 ht hc hcap rfl rfl rfl _ e hkn hb true (decide_eq_true hrt')).mono fun _ _ h => ryes hrt (fin _ _ h)
            · exact (rread_15_isa A n c zs w hr hx hn h1 _ _ _ t h0 ht hc hcap rfl rfl rfl _ e hkn hb true (decide_eq_true hrt')).mono fun _ _ h => ryes hrt (fin _ _ h)
          · have hrt' : ¬ rightP 15 (gotW zs n 1) (gotW zs n 3) 0 0 0 (gotW zs n 3).toNat 0 0 0 0 0 := by
              intro h
              apply hrt
              unfold Req.right
              rw [unb_length]
              exact h
            by_cases hcap : c = 6
            · exact (rread_15_isb A n c zs w hr hx hn h1 _ _ _ t h0 ht hc hcap rfl rfl rfl _ e hkn hb false (decide_eq_false hrt')).mono fun _ _ ⟨_, _, h, _, h2⟩ => rno (.inr ⟨_, rfl, hrt⟩) ⟨h, h2⟩
            · exact (rread_15_isa A n c zs w hr hx hn h1 _ _ _ t h0 ht hc hcap rfl rfl rfl _ e hkn hb false (decide_eq_false hrt')).mono fun _ _ ⟨_, _, h, _, h2⟩ => rno (.inr ⟨_, rfl, hrt⟩) ⟨h, h2⟩
        · rw [if_neg (fun h => hb (by have := h.2.2; omega))]
          by_cases hcap : c = 6
          · exact (rread_15_byteb A n c zs w hr hx hn h1 _ _ _ t h0 ht hc hcap rfl rfl rfl _ e hkn hb).mono fun _ _ ⟨_, _, h⟩ => rno (.inl rfl) h
          · exact (rread_15_bytea A n c zs w hr hx hn h1 _ _ _ t h0 ht hc hcap rfl rfl rfl _ e hkn hb).mono fun _ _ ⟨_, _, h⟩ => rno (.inl rfl) h
      · rw [if_neg (fun h => hu (by have := h.2.1; have := h.2.2; omega))]
        by_cases hcap : c = 6
        · exact (rread_15_nob A n c zs w hr hx hn h1 _ _ _ t h0 ht hc hcap rfl rfl rfl hu).mono fun _ _ h => rno (.inl rfl) h
        · exact (rread_15_noa A n c zs w hr hx hn h1 _ _ _ t h0 ht hc hcap rfl rfl rfl hu).mono fun _ _ h => rno (.inl rfl) h
    · rw [if_neg (fun h => h5 h.1)]; exact (rread_15_few A n c zs w hr hx hn h1 h0 (by omega)).mono fun _ _ h => rno (.inl rfl) h
  · rw [cand_16 h0]
    by_cases h5 : 5 < n
    · by_cases hln : (n : Int) = 6 + 2 * gotW zs n 3
      · obtain ⟨m, hm⟩ : ∃ m : Nat, gotW zs n 3 = (m : Int) := ⟨(gotW zs n 3).toNat, by omega⟩
        have hln' : n = 6 + 2 * m := by omega
        by_cases hb : zs.getD 5 0 = 2 * (m : Int)
        · rw [if_pos ⟨h5, by omega, by omega⟩, hm, Int.toNat_natCast]
          by_cases hrt : Req.right ⟨16, gotW zs n 1, (m : Int), 0, 0, 0, [], wordsAt zs 6 m, 0, 0, 0, 0⟩
          · have hrt' : rightP 16 (gotW zs n 1) (m : Int) 0 0 0 0 m 0 0 0 0 := by
              have h := hrt
              unfold Req.right at h
              rw [wordsAt_length] at h
              exact h
            refine (rread_16_is A n c zs _ m w hr hx hn h1 h0 rfl hm hln' hb true (decide_eq_true hrt')).mono ?_
            rintro e w' ⟨B, d, he, ho, hb⟩
            refine ryes hrt ⟨none, B, 0, d, ?_, own_none _ _ _, ?_, hb⟩
            · rw [wordsAt_length]; exact he
            · rw [wordsAt_length]; exact ho
          · have hrt' : ¬ rightP 16 (gotW zs n 1) (m : Int) 0 0 0 0 m 0 0 0 0 := by
              intro h
              apply hrt
              unfold Req.right
              rw [wordsAt_length]
              exact h
            exact (rread_16_is A n c zs _ m w hr hx hn h1 h0 rfl hm hln' hb false (decide_eq_false hrt')).mono fun _ _ ⟨_, _, h, _, h2⟩ => rno (.inr ⟨_, rfl, hrt⟩) ⟨h, h2⟩
        · rw [if_neg (fun h => hb (by have := h.2.2; omega))]
          exact (rread_16_byte A n c zs _ _ m w hr hx hn h1 h0 rfl hm hln' rfl hb).mono fun _ _ ⟨_, _, h⟩ => rno (.inl rfl) h
      · rw [if_neg (fun h => hln (by have := h.2.1; have := h.2.2; omega))]
        exact (rread_16_len A n c zs _ _ w hr hx hn h1 h0 rfl rfl (by omega) hln).mono fun _ _ h => rno (.inl rfl) h
    · rw [if_neg (fun h => h5 h.1)]; exact (rread_16_few A n c zs w hr hx hn h1 h0 (by omega)).mono fun _ _ h => rno (.inl rfl) h
  · rw [cand_22 h0]
    by_cases hl : n = 7
    · rw [if_pos hl]
      by_cases hrt : Req.right ⟨22, gotW zs n 1, 0, 0, gotW zs n 3, gotW zs n 5, [], [], 0, 0, 0, 0⟩
      · exact (rread_22_is A n c zs _ _ _ w hr hx hn h1 h0 rfl rfl rfl hl true (decide_eq_true hrt)).mono fun _ _ h => ryes hrt (fyes h)
      · exact (rread_22_is A n c zs _ _ _ w hr hx hn h1 h0 rfl rfl rfl hl false (decide_eq_false hrt)).mono fun _ _ h => rno (.inr ⟨_, rfl, hrt⟩) h
    · rw [if_neg hl]; exact (rread_22_len A n c zs _ _ _ w hr hx hn h1 h0 rfl rfl rfl hl).mono fun _ _ h => rno (.inl rfl) h
  · rw [cand_23 h0]
    by_cases h5 : 9 < n
    · by_cases hln : (n : Int) = 10 + 2 * gotW zs n 7
      · obtain ⟨m, hm⟩ : ∃ m : Nat, gotW zs n 7 = (m : Int) := ⟨(gotW zs n 7).toNat, by omega⟩
        have hln' : n = 10 + 2 * m := by omega
        by_cases hb : zs.getD 9 0 = 2 * (m : Int)
        · rw [if_pos ⟨h5, by omega, by omega⟩, hm, Int.toNat_natCast]
          by_cases hrt : Req.right ⟨23, gotW zs n 5, (m : Int), 0, 0, 0, [], wordsAt zs 10 m, gotW zs n 1, gotW zs n 3, 0, 0⟩
          · have hrt' : rightP 23 (gotW zs n 5) (m : Int) 0 0 0 0 m (gotW zs n 1) (gotW zs n 3) 0 0 := by
              have h := hrt
              unfold Req.right at h
              rw [wordsAt_length] at h
              exact h
            refine (rread_23_is A n c zs _ _ _ m w hr hx hn h1 h0 rfl rfl rfl hm hln' hb true (decide_eq_true hrt')).mono ?_
            rintro e w' ⟨B, d, he, ho, hb⟩
            refine ryes hrt ⟨none, B, 0, d, ?_, own_none _ _ _, ?_, hb⟩
            · rw [wordsAt_length]; exact he
            · rw [wordsAt_length]; exact ho
          · have hrt' : ¬ rightP 23 (gotW zs n 5) (m : Int) 0 0 0 0 m (gotW zs n 1) (gotW zs n 3) 0 0 := by
              intro h
              apply hrt
              unfold Req.right
              rw [wordsAt_length]
              exact h
            exact (rread_23_is A n c zs _ _ _ m w hr hx hn h1 h0 rfl rfl rfl hm hln' hb false (decide_eq_false hrt')).mono fun _ _ ⟨_, _, h, _, h2⟩ => rno (.inr ⟨_, rfl, hrt⟩) ⟨h, h2⟩
        · rw [if_neg (fun h => hb (by have := h.2.2; omega))]
          exact (rread_23_byte A n c zs _ _ _ _ m w hr hx hn h1 h0 rfl rfl rfl hm hln' rfl hb).mono fun _ _ ⟨_, _, h⟩ => rno (.inl rfl) h
      · rw [if_neg (fun h => hln (by have := h.2.1; have := h.2.2; omega))]
        exact (rread_23_len A n c zs _ _ _ _ w hr hx hn h1 h0 rfl rfl rfl rfl (by omega) hln).mono fun _ _ h => rno (.inl rfl) h
    · rw [if_neg (fun h => h5 h.1)]; exact (rread_23_few A n c zs w hr hx hn h1 h0 (by omega)).mono fun _ _ h => rno (.inl rfl) h
  · rw [cand_43 h0]
    by_cases hl : n = 4
    · rw [if_pos hl]
      by_cases hrt : Req.right ⟨43, 0, 0, 0, 0, 0, [], [], 0, 0, zs.getD 2 0, zs.getD 3 0⟩
      · exact (rread_43_is A n c zs _ _ w hr hx hn h1 h0 rfl rfl hl true (decide_eq_true hrt)).mono fun _ _ h => ryes hrt (fyes h)
      · exact (rread_43_is A n c zs _ _ w hr hx hn h1 h0 rfl rfl hl false (decide_eq_false hrt)).mono fun _ _ h => rno (.inr ⟨_, rfl, hrt⟩) h
    · rw [if_neg hl]; exact (rread_43_len A n c zs w hr hx hn h1 h0 hl).mono fun _ _ h => rno (.inl rfl) h
  · rw [h0.known] at hk; cases hk

theorem rparse_any (A : Option Addr) (n c : Nat) (zs : List Int) (w : World) (hr : Row .u8 w w.heap.size A n zs) (hx : Bytes8 zs) (hn : n ≤ 1000) (hc : n ≤ c) :
    Calls Try.prog 12 #[.slice A n c] w (ParsedTo (parseOf zs n) w) := by
  unfold parseOf
  by_cases hedge : n = 0 ∨ 253 < n
  · rw [if_pos hedge]; exact (rparse_edge A n c w hedge).mono fun _ _ h => h.to
  rw [if_neg hedge]
  have h1 : 1 ≤ n := by omega
  have h253 : n ≤ 253 := by omega
  by_cases hk : kKnown (zs.getD 0 0) = false
  · rw [if_pos hk]
    exact (rparse_unknown A n c zs _ w hr hx h253 h1 rfl hk).mono fun _ _ h => h.to
  rw [if_neg hk]
  have hk' : kKnown (zs.getD 0 0) = true := by simpa using hk
  by_cases ha : zs.getD 0 0 = 43 ∧ n = 1
  · rw [if_pos ha, ha.1]
    exact (rparse_alone A n c zs w hr hx h253 h1 ha.1 ha.2).mono fun _ _ h => h.to
  rw [if_neg ha]
  by_cases hb : zs.getD 0 0 = 43 ∧ zs.getD 1 0 ≠ 14
  · rw [if_pos hb, hb.1]
    exact (rparse_14 A n c zs w hr hx h253 h1 hb.1 (by have := hb.1; omega) _ rfl hb.2).mono fun _ _ h => h.to
  rw [if_neg hb]
  have hf : ∀ W, Row .u8 W W.heap.size A n zs → Calls Try.prog 25 #[.slice A n c] W (ReadTo (cand zs n) W) := fun W hW => rread_any A n c zs W hW hx hn h1 hc hk'
  have none_ : (∀ W, Row .u8 W W.heap.size A n zs → Calls Try.prog 25 #[.slice A n c] W (FieldsNo W)) → Calls Try.prog 12 #[.slice A n c] w (ParsedTo (⟨zs.getD 0 0, 0, 0, 0, 0, 0, [], [], 0, 0, 0, 0⟩, 3) w) := by
    intro hg
    by_cases h43 : zs.getD 0 0 = 43
    · rw [h43]
      exact (rparse_none_43 A n c zs w hr hx h253 h1 h43 (by have := fun h => ha ⟨h43, h⟩; omega) (Classical.byContradiction fun h => hb ⟨h43, h⟩) hg).mono fun _ _ h => h.to
    · exact (rparse_none A n c zs _ w hr hx h253 h1 rfl hk' h43 hg).mono fun _ _ h => h.to
  rcases hcd : cand zs n with _ | r
  · rw [hcd] at hf
    exact none_ hf
  · rw [hcd] at hf
    by_cases hrt : r.right
    · show Calls Try.prog _ _ _ (ParsedTo (if r.right then (r, 0) else _) w)
      rw [if_pos hrt]
      have hg : ∀ W, Row .u8 W W.heap.size A n zs → Calls Try.prog 25 #[.slice A n c] W (FieldsYes r.fn r.at_ r.n r.v r.an r.orr r.bs.length r.ws.length r.ra r.rn r.co r.ob r.bs r.ws W) := fun W hW => (hf W hW).mono fun e w' h => by
        have h' : (if r.right then FieldsTo (some r) W e w' else FieldsNo W e w') := h
        rw [if_pos hrt] at h'
        exact h'
      by_cases h43 : zs.getD 0 0 = 43
      · exact (rparse_ok_43 A n c zs w hr hx h253 h1 h43 (by have := fun h => ha ⟨h43, h⟩; omega) (Classical.byContradiction fun h => hb ⟨h43, h⟩) _ _ _ _ _ _ _ _ _ _ _ _ _ _ hg).mono fun _ _ h => h
      · exact (rparse_ok A n c zs _ w hr hx h253 h1 rfl hk' h43 _ _ _ _ _ _ _ _ _ _ _ _ _ _ hg).mono fun _ _ h => h
    · show Calls Try.prog _ _ _ (ParsedTo (if r.right then (r, 0) else _) w)
      rw [if_neg hrt]
      exact none_ fun W hW => (hf W hW).mono fun e w' h => by
        have h' : (if r.right then FieldsTo (some r) W e w' else FieldsNo W e w') := h
        rw [if_neg hrt] at h'
        exact h'

end Go.Proofs.Ytebpilfogdenjaa
